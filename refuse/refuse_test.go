package refuse_test

import (
	"errors"
	"testing"

	"estuary/api"
	"estuary/fault"
	"estuary/refuse"
)

// It is told by what it wraps, however deep that is.
func TestBy(t *testing.T) {
	one := refuse.By("here", api.ErrLarge)
	for text, err := range map[string]error{"here: error 13": one, "there: here: error 13": refuse.By("there", one), "here: below: error 13": refuse.By("here", fault.New(api.ErrLarge, "below"))} {
		if !errors.Is(err, api.ErrLarge) || errors.Is(err, api.ErrFull) || fault.Code(err) != api.ErrLarge || err.Error() != text {
			t.Errorf("%v, not %s", err, text)
		}
	}
	if errors.Unwrap(one) != api.ErrLarge || !errors.Is(refuse.By("there", one), one) {
		t.Error("what it wraps isn't found")
	}
	if err := refuse.By("here", nil); err != nil {
		t.Errorf("of nil: %v", err)
	}
}
