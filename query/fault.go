package query

import "strconv"

const noPlace = -1 // of a fault that is not one of the text

// Fault: where in the text, and why.
type Fault struct {
	At  int // a byte of the text, or -1
	Err error
}

// Error tells the fault in words.
func (f *Fault) Error() string {
	place, why := "", "nothing"
	if f.At >= 0 {
		place = " at " + strconv.Itoa(f.At)
	}
	if f.Err != nil {
		why = f.Err.Error()
	}
	return "query" + place + ": " + why
}

// Unwrap is why.
func (f *Fault) Unwrap() error { return f.Err }
