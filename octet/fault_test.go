package octet

import (
	"errors"
	"testing"

	"consignor/api"
)

// TestErrno: a refusal's number is the same, however deep it is wrapped.
func TestErrno(t *testing.T) {
	for _, c := range []struct {
		cause error
		want  api.Errno
	}{
		{errSize, api.ErrArg},
		{excess{9, 8}, api.ErrLong},
		{errShort, api.ErrShort},
		{errDigits, api.ErrHex},
	} {
		for _, err := range []error{c.cause, at(3, c.cause), at(1, at(2, c.cause))} {
			if got := errno(err); got != c.want {
				t.Errorf("%v: %d, want %d", err, got, c.want)
			}
		}
	}
	if got := errno(nil); got != api.OK {
		t.Error(got)
	}
}

// TestPlace: the way in says at which text, or digit, it went wrong.
func TestPlace(t *testing.T) {
	_, err := loose("\x01\x00a\x02\x00b")
	var p placed
	if !errors.As(err, &p) || p.place != 1 || !errors.Is(err, errShort) {
		t.Error(err)
	}
	_, err = bind([]string{"a", "b", string(make([]byte, api.MaxText+1))})
	var over excess
	if !errors.As(err, &p) || p.place != 2 || !errors.As(err, &over) || over != (excess{4097, 4096}) {
		t.Error(err)
	}
	for place, s := range []string{"x000", "0x00", "00x0", "000x"} {
		if _, err := unhex(s); !errors.As(err, &p) || p.place != place || !errors.Is(err, errDigits) {
			t.Error(s, err)
		}
	}
	if got, want := at(2, excess{4097, 4096}).Error(), "at 2: 4097 where 4096 may be"; got != want {
		t.Errorf("%q, want %q", got, want)
	}
}
