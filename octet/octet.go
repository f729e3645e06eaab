// Package octet is layer 1: bytes as digits, numbers as bytes, and texts that are bound into one (shared/doc/01-octet.md).
package octet

import (
	"math/bits"
	"strings"

	"consignor/api"
)

const (
	digits     = "0123456789abcdef"
	mostBytes  = 8 // of a number
	lengthSize = 2 // bytes of a bound text's length
)

// Hex is the bytes' digits, two for each, the higher half first.
func Hex(s string) string {
	var b strings.Builder
	b.Grow(2 * len(s))
	for i := range len(s) {
		b.WriteByte(digits[s[i]>>4])
		b.WriteByte(digits[s[i]&15])
	}
	return b.String()
}

// Bytes is what digits say.
func Bytes(s string) (string, api.Errno) {
	b, err := unhex(s)
	return b, errno(err)
}

// Wide is a number in size bytes, the lowest first.
func Wide(n uint64, size int) (string, api.Errno) {
	b, err := wide(n, size)
	return b, errno(err)
}

// Whole is the number that bytes are.
func Whole(s string) (uint64, api.Errno) {
	n, err := whole(s)
	return n, errno(err)
}

// Bind is texts, each behind its length, as one.
func Bind(parts ...string) (string, api.Errno) {
	s, err := bind(parts)
	return s, errno(err)
}

// Loose is the texts that Bind bound.
func Loose(s string) ([]string, api.Errno) {
	parts, err := loose(s)
	return parts, errno(err)
}

func unhex(s string) (string, error) {
	if len(s)%2 != 0 {
		return "", errDigits
	}
	b := make([]byte, 0, len(s)/2)
	for i := 0; i < len(s); i += 2 {
		high, err := digit(s[i])
		if err != nil {
			return "", at(i, err)
		}
		low, err := digit(s[i+1])
		if err != nil {
			return "", at(i+1, err)
		}
		b = append(b, high<<4|low)
	}
	return string(b), nil
}

func digit(c byte) (byte, error) {
	switch {
	case '0' <= c && c <= '9':
		return c - '0', nil
	case 'a' <= c && c <= 'f':
		return c - 'a' + 10, nil
	}
	return 0, errDigits
}

func wide(n uint64, size int) (string, error) {
	if size < 0 || size > mostBytes {
		return "", errSize
	}
	if err := within((bits.Len64(n)+7)/8, size); err != nil {
		return "", err
	}
	b := make([]byte, size)
	for i := range b {
		b[i] = byte(n >> (8 * i))
	}
	return string(b), nil
}

func whole(s string) (uint64, error) {
	if err := within(len(s), mostBytes); err != nil {
		return 0, err
	}
	var n uint64
	for i := range len(s) {
		n |= uint64(s[i]) << (8 * i)
	}
	return n, nil
}

func bind(parts []string) (string, error) {
	if err := within(len(parts), api.MaxParts); err != nil {
		return "", err
	}
	var b strings.Builder
	for i, p := range parts {
		if err := within(len(p), api.MaxText); err != nil {
			return "", at(i, err)
		}
		length, err := wide(uint64(len(p)), lengthSize)
		if err != nil {
			return "", at(i, err)
		}
		b.WriteString(length)
		b.WriteString(p)
	}
	return b.String(), nil
}

func loose(s string) ([]string, error) {
	var parts []string
	for s != "" {
		part, rest, err := first(s, len(parts))
		if err != nil {
			return nil, at(len(parts), err)
		}
		// a copy, so that a short text does not keep all that it came in
		parts = append(parts, strings.Clone(part))
		s = rest
	}
	return parts, nil
}

// first is the text that s begins with, and what is behind it; before is how many texts came ahead of it.
func first(s string, before int) (part, rest string, err error) {
	head, rest, err := cut(s, lengthSize)
	if err != nil {
		return "", "", err
	}
	n, err := whole(head)
	if err != nil {
		return "", "", err
	}
	length := int(n)
	// both limits stand ahead of the cut: a text that may not be is too long, whether its bytes are there or not
	if err := within(length, api.MaxText); err != nil {
		return "", "", err
	}
	if err := within(before+1, api.MaxParts); err != nil {
		return "", "", err
	}
	return cut(rest, length)
}

// cut is the first n bytes, and those behind them.
func cut(s string, n int) (head, rest string, err error) {
	if len(s) < n {
		return "", "", errShort
	}
	return s[:n], s[n:], nil
}
