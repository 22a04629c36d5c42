package saga

import (
	"annals/api"
	"annals/text"
)

// Check tells whether records can lead to a saga's values.
func Check(s api.Saga) api.Errno {
	if bounded(s) && settled(s) && (forward(s) && wentOn(s) || !forward(s) && wentBack(s)) {
		return api.OK
	}
	return api.ErrSaga
}

// bounded holds each value against its own bounds.
func bounded(s api.Saga) bool {
	e, _ := text.Name(s.Name)
	return e == api.OK &&
		within(s.ID, 1, api.MaxID) &&
		within(s.Count, 1, api.MaxSteps) &&
		within(s.Pivot, 0, s.Count) &&
		within(s.Begun, 0, api.MaxID) &&
		within(s.At, 0, api.MaxID) &&
		within(s.Phase, api.Running, api.Undone) &&
		within(s.Tries, 0, api.MaxTry) &&
		short(s.Input) && short(s.Fail) && short(s.Outs...) && short(s.Undos...)
}

func within(n, low, high int) bool { return low <= n && n <= high }

func short(lists ...[]byte) bool {
	for _, b := range lists {
		if len(b) > api.MaxData {
			return false
		}
	}
	return true
}

// settled holds the tries against what there is to try: nothing is in flight that was not tried, and nothing is tried where nothing is left but to end.
func settled(s api.Saga) bool {
	if atEnd(s) || ended(s) {
		return !s.Flight && s.Tries == 0
	}
	return !s.Flight || s.Tries != 0
}

// wentOn holds a saga that is running, or whole, against what its done steps make of it.
func wentOn(s api.Saga) bool {
	failed := s.FailStep != 0 || s.FailCode != 0 || len(s.Fail) != 0
	if failed || len(s.Undos) != 0 || !within(s.Next, 0, s.Count) || len(s.Outs) != s.Next {
		return false
	}
	if s.Phase == api.Whole {
		return s.Next == s.Count
	}
	newborn := s.Next == 0 && s.Tries == 0
	return !newborn || s.At == s.Begun
}

// wentBack holds a saga that is undoing, or undone, against what its failure for good makes of it.
func wentBack(s api.Saga) bool {
	if s.FailStep != len(s.Outs) || s.FailStep >= s.Count || behindPivot(s, s.FailStep) {
		return false
	}
	if !within(s.Next, 0, s.FailStep) || len(s.Undos) != s.FailStep-s.Next {
		return false
	}
	return s.Phase == api.Undoing || s.Next == 0
}
