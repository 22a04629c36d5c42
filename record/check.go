package record

import (
	"math"
	"slices"

	"annals/api"
	"annals/text"
)

const (
	lastYes   = 1 // Last of a step that failed for good
	endUndone = 2 // the greatest outcome of an end
)

// Check tells whether a record is valid in its version.
func Check(r api.Record) api.Errno {
	if !isVersion(r.V) {
		return api.ErrVersion
	}
	if !isKind(r.Kind) {
		return api.ErrKind
	}
	if r.Saga < 1 {
		return api.ErrID
	}
	p := apart(r)
	may := tags[r.Kind-1][r.V-1]
	for tag := tagStep; tag <= tagData; tag++ {
		e := api.OK
		if slices.Contains(may[:], tag) {
			e = checkField(r, p, tag)
		} else if !p.isZero(tag) {
			e = api.ErrExtra
		}
		if e != api.OK {
			return e
		}
	}
	return api.OK
}

// checkField is the error of the bounds of a field that may stand.
func checkField(r api.Record, p parts, tag int) api.Errno {
	switch tag {
	case tagName:
		return checkName(p.name)
	case tagData:
		return checkData(r)
	}
	low, high := bounds(r, tag)
	if p.nums[tag] < low || p.nums[tag] > high {
		return api.ErrBound
	}
	return api.OK
}

// isOldBegin tells whether r is a begin of version 1, which has no Count and no Name: its Step and its Data stand for them.
func isOldBegin(r api.Record) bool { return r.V == firstVersion && r.Kind == api.KBegin }

// bounds are those of a number's field, where it may stand.
func bounds(r api.Record, tag int) (low, high int) {
	switch tag {
	case tagStep:
		if isOldBegin(r) {
			return 1, api.MaxSteps
		}
		return 0, api.MaxSteps - 1
	case tagTry:
		return 1, api.MaxTry
	case tagLast:
		return 0, lastYes
	case tagCode:
		if r.Kind == api.KEnd {
			return 0, endUndone
		}
		return math.MinInt, math.MaxInt
	case tagCount:
		return 1, api.MaxSteps
	case tagPivot:
		return 0, r.Count
	}
	return 0, api.MaxID
}

func checkName(name string) api.Errno {
	if e, _ := text.Name(name); e != api.OK {
		return api.ErrLabel
	}
	return api.OK
}

func checkData(r api.Record) api.Errno {
	if len(r.Data) > api.MaxData {
		return api.ErrData
	}
	if isOldBegin(r) {
		return checkName(string(r.Data))
	}
	return api.OK
}
