package cron

import (
	"errors"
	"strconv"
	"strings"
)

const (
	star      = "*"
	comma     = "," // between a field's parts
	dash      = "-" // between two numbers
	slash     = "/" // ahead of a step
	everyStep = 1   // of a part without a step
)

// The fields in their order, and the step that may stand in each.
const (
	minutes = iota
	hours
	days
	months
	week
	step
	fieldCount = step
)

// bound is from where to where numbers may be, or values go.
type bound struct{ least, most int }

var bounds = [...]bound{
	minutes: {0, 59},
	hours:   {0, 23},
	days:    {1, 31},
	months:  {1, 12},
	week:    {0, 6},
	step:    {1, 59},
}

// What a part may be refused for.
var (
	errAlone  = errors.New("neither a star nor two numbers")
	errNumber = errors.New("no number within the bounds")
	errOrder  = errors.New("the first number is above the second")
)

// field is the set of the values that a field's text says: the bit of each.
func (b bound) field(s string) (uint64, error) {
	var set uint64
	for _, p := range strings.Split(s, comma) {
		more, err := b.part(p)
		if err != nil {
			return 0, err
		}
		set |= more
	}
	return set, nil
}

// part is the set of the values of one of a field's parts.
func (b bound) part(s string) (uint64, error) {
	set, err := b.many(s)
	if !errors.Is(err, errAlone) {
		return set, err
	}
	// all of the part is to be one number, as no step may stand behind it
	n, err := b.number(s)
	if err != nil {
		return 0, err
	}
	return bit(n), nil
}

// many is the set of the values of a star or of two numbers, with a step behind them or without.
func (b bound) many(s string) (uint64, error) {
	ends, steps, stepped := strings.Cut(s, slash)
	values, err := b.span(ends)
	if err != nil {
		return 0, err
	}
	if !stepped {
		return values.set(everyStep), nil
	}
	by, err := bounds[step].number(steps)
	if err != nil {
		return 0, err
	}
	return values.set(by), nil
}

// span is from where to where a star, or two numbers, go.
func (b bound) span(s string) (bound, error) {
	if s == star {
		return b, nil
	}
	first, second, two := strings.Cut(s, dash)
	if !two {
		return bound{}, errAlone
	}
	least, err := b.number(first)
	if err != nil {
		return bound{}, err
	}
	most, err := b.number(second)
	if err != nil {
		return bound{}, err
	}
	if least > most {
		return bound{}, errOrder
	}
	return bound{least, most}, nil
}

// number is what a text of digits says.
func (b bound) number(s string) (int, error) {
	n, err := strconv.Atoi(s)
	// written anew it is another text, if there was a sign or a 0 ahead
	if err != nil || strconv.Itoa(n) != s || n < b.least || n > b.most {
		return 0, errNumber
	}
	return n, nil
}

// set is that of the first value, and of each so many behind it.
func (b bound) set(by int) uint64 {
	var set uint64
	for n := b.least; n <= b.most; n += by {
		set |= bit(n)
	}
	return set
}

func bit(n int) uint64 { return 1 << n }

func has(set uint64, n int) bool { return set&bit(n) != 0 }
