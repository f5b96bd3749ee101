package right

import "mortsafe/api"

// finestOfRecord is the greatest denominator of the share of a record.
const finestOfRecord = 12

// CheckRecords returns the error of records.
func CheckRecords(l []api.Record) api.Errno {
	if len(l) > api.MaxRecords {
		return api.ErrLarge
	}
	for _, r := range l {
		if e := checkRecord(r); e != api.OK {
			return e
		}
	}
	return api.OK
}

func checkRecord(r api.Record) api.Errno {
	return firstError(
		errorIf(!isFromTo(r.Kind, api.RecordAlive, api.RecordGrant), api.ErrKind),
		errorIf(!isDay(r.Day) || !isDay(r.Until), api.ErrRange),
		errorIf(!areNamesOrEmpty(r.Name, r.Other, r.Place), api.ErrName),
		errorIf(r.Name == "" || !isOfRecordKind(r), api.ErrForm),
		errorIf(r.Kind == api.RecordGrant && r.Until <= r.Day, api.ErrOrder),
	)
}

// isOfRecordKind tells whether the fields of a record beside its name are those of its
// kind.
func isOfRecordKind(r api.Record) bool {
	isChild, isHolds, isGrant := r.Kind == api.RecordChild, r.Kind == api.RecordHolds, r.Kind == api.RecordGrant
	return (r.Other != "") == isChild &&
		(r.Place != "") == (isHolds || isGrant) &&
		(r.Day == 0 || !isChild) &&
		(r.Until == 0 || isGrant) &&
		hasRightShare(r)
}

func hasRightShare(r api.Record) bool {
	if r.Kind != api.RecordHolds {
		return r.Share == api.Frac{}
	}
	return isFraction(r.Share, finestOfRecord) && r.Share != none
}
