package store

import (
	"errors"
	"testing"

	"cannery/api"
)

// The error of a move that fails is found with its index, whatever wraps it.
func TestFailures(t *testing.T) {
	_, err := open(100, []api.Move{{Pallet: 1, Kind: api.MIn, Where: "a", Cans: 1}, {Pallet: 1, Kind: api.MShip, Where: "joe"}})
	err = errors.Join(errors.New("another"), err)
	var f failure
	if !errors.As(err, &f) || f.index != 1 || f.Error() != "move 1: error 11" {
		t.Errorf("%v in %v", f, err)
	}
	if e := errnoOf(err); e != api.ErrHeld {
		t.Errorf("%d in %v", e, err)
	}
	if !errors.Is(err, refusal(api.ErrHeld)) || errors.Is(err, refusal(api.ErrState)) {
		t.Errorf("%v is another error", err)
	}
	if e := errnoOf(nil); e != api.OK {
		t.Errorf("%d in nothing", e)
	}
	if _, err := open(0, nil); errors.As(err, &f) || errnoOf(err) != api.ErrRange {
		t.Errorf("%v of no move", err)
	}
}
