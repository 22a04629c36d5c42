package engine

import (
	"strconv"

	"annals/api"
)

// noSaga is the Saga of a fault that is about none; no saga has such an id.
const noSaga = 0

// Fault: of which saga (0: of none), and why.
type Fault struct {
	Saga int
	Err  error
}

// Error tells the fault in words.
func (f *Fault) Error() string {
	out := "engine: "
	if f.Saga != noSaga {
		out = "saga " + strconv.Itoa(f.Saga) + ": "
	}
	if f.Err == nil {
		return out + "nothing"
	}
	return out + f.Err.Error()
}

// Unwrap is why.
func (f *Fault) Unwrap() error { return f.Err }

// about is an error of a step as the face answers it: with the saga that it is about; nil of nil.
func about(saga int, err error) error {
	if err == nil {
		return nil
	}
	return &Fault{Saga: saga, Err: err}
}

// because is an error number as an error; nil of OK.
func because(e api.Errno) error {
	if e == api.OK {
		return nil
	}
	return e
}
