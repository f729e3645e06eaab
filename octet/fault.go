package octet

import (
	"errors"
	"strconv"

	"consignor/api"
)

// What bytes, digits and sizes may be refused for.
var (
	errDigits = errors.New("no digits of bytes")
	errShort  = errors.New("fewer bytes than told")
	errSize   = errors.New("a size that may not be")
)

// excess is a refusal, too: there is more than there may be.
type excess struct {
	has, most int
}

func (e excess) Error() string {
	return strconv.Itoa(e.has) + " where " + strconv.Itoa(e.most) + " may be"
}

func within(has, most int) error {
	if has > most {
		return excess{has, most}
	}
	return nil
}

// placed is a refusal with the place of the digit, or of the text, that it is of.
type placed struct {
	place int
	cause error
}

func (p placed) Error() string {
	return "at " + strconv.Itoa(p.place) + ": " + p.cause.Error()
}

func (p placed) Unwrap() error { return p.cause }

func at(place int, cause error) error { return placed{place, cause} }

// errno is the number that tells a refusal outside.
func errno(err error) api.Errno {
	var over excess
	switch {
	case err == nil:
		return api.OK
	case errors.As(err, &over):
		return api.ErrLong
	case errors.Is(err, errShort):
		return api.ErrShort
	case errors.Is(err, errDigits):
		return api.ErrHex
	}
	// errSize alone is left
	return api.ErrArg
}
