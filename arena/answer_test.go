package arena

import (
	"errors"
	"testing"

	"beltway/api"
)

// The chapter's Ways: a fault becomes the error that it carries, and other panics go on.

func TestAnswerReturnsTheErrorOfAFault(t *testing.T) {
	for _, want := range []api.Errno{api.ErrArg, api.ErrRange} {
		value, err := answer(func() int { panic(fault{want}) })
		if value != 0 || err != want {
			t.Errorf("answer = %d, %d, want 0, %d", value, err, want)
		}
	}
}

func TestAnswerReturnsAValue(t *testing.T) {
	if value, err := answer(func() int { return 9 }); value != 9 || err != api.OK {
		t.Errorf("answer = %d, %d, want 9, OK", value, err)
	}
}

func TestAnswerLetsOtherPanicsGoOn(t *testing.T) {
	for _, other := range []any{"text", 7, api.ErrRange, errors.New("error")} {
		func() {
			defer func() {
				if p := recover(); p != other {
					t.Errorf("the panic of %v went on as %v", other, p)
				}
			}()
			answer(func() int { panic(other) })
			t.Errorf("the panic of %v did not go on", other)
		}()
	}
}
