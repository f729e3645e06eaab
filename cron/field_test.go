package cron

import (
	"errors"
	"testing"
)

// TestRefusals: which refusal a part of a field of the days meets.
func TestRefusals(t *testing.T) { // P8.1
	for _, c := range []struct {
		part string
		want error
	}{
		{"*", nil},
		{"*/59", nil},
		{"31", nil},
		{"1-31/1", nil},
		{"0", errNumber},
		{"32", errNumber},
		{"", errNumber},
		{"5/2", errNumber},
		{"x", errNumber},
		{"0-5", errNumber},
		{"5-32", errNumber},
		{"5-", errNumber},
		{"-5", errNumber},
		{"32-1", errNumber},
		{"5-4", errOrder},
		{"5-4/60", errOrder},
		{"*/60", errNumber},
		{"*/0", errNumber},
		{"*/", errNumber},
		{"4-5/60", errNumber},
	} {
		set, err := bounds[days].part(c.part)
		if !errors.Is(err, c.want) || err != nil && set != 0 {
			t.Errorf("%q: %#x, %v, want %v", c.part, set, err, c.want)
		}
	}
}

// TestAlone: only what has neither a star nor two numbers is tried as one number.
func TestAlone(t *testing.T) { // P8.1
	for _, c := range []struct {
		part string
		want bool
	}{{"5", true}, {"5/2", true}, {"", true}, {"**", true}, {"*", false}, {"5-4", false}, {"-", false}, {"*/", false}} {
		if _, err := bounds[days].many(c.part); errors.Is(err, errAlone) != c.want {
			t.Errorf("%q: %v", c.part, err)
		}
	}
}
