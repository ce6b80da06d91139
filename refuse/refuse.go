// Package refuse: errors that say who refused: for the layers that may not call fault.
package refuse

// refusal: its text is for people; what counts is the number that why is, or wraps.
type refusal struct {
	who string
	why error
}

// By: nil of nil, so that a call can tell at its end whatever it came to.
func By(who string, why error) error {
	if why == nil {
		return nil
	}
	return refusal{who, why}
}

// Error: who and why of what is below are within why's.
func (r refusal) Error() string { return r.who + ": " + r.why.Error() }

// Unwrap: by this fault's Code and errors.Is find the number.
func (r refusal) Unwrap() error { return r.why }
