package ship

// Fault: what failed, and why.
type Fault struct {
	Why string
	Err error
}

// Error tells the fault in words.
func (f *Fault) Error() string {
	if f.Err == nil {
		return f.Why + ": nothing"
	}
	return f.Why + ": " + f.Err.Error()
}

// Unwrap is the cause.
func (f *Fault) Unwrap() error { return f.Err }
