// Package digits is layer 1: see shared/doc/01-digits.md.
package digits

import "strings"

// Every number of 18 digits fits an int of 64 bits; some of 19 don't.
const mostNumber = 18

const mostPad = 999

// All: are these digits alone?
func All(s string) bool {
	// A byte that is no character of one byte comes as a rune above '9': it can't be taken for a digit.
	for _, r := range s {
		if r < '0' || r > '9' {
			return false
		}
	}
	return true
}

// Put: a number, by so many digits.
func Put(n, width int) (string, bool) {
	if n < 0 || !within(width, mostNumber) {
		return "", false
	}
	out := make([]byte, width)
	for i := width - 1; i >= 0; i-- {
		out[i] = '0' + byte(n%10)
		n /= 10
	}
	// What is left over found no room.
	if n > 0 {
		return "", false
	}
	return string(out), true
}

// Get: the number that digits are.
func Get(s string) (int, bool) {
	if !within(len(s), mostNumber) || !All(s) {
		return 0, false
	}
	n := 0
	for _, r := range s {
		n = n*10 + int(r-'0')
	}
	return n, true
}

// Pad: digits, with noughts ahead, or without some.
func Pad(s string, width int) (string, bool) {
	if !within(len(s), mostPad) || !within(width, mostPad) || !All(s) {
		return "", false
	}
	if len(s) <= width {
		return strings.Repeat("0", width-len(s)) + s, true
	}
	extra := len(s) - width
	if !noughts(s[:extra]) {
		return "", false
	}
	return s[extra:], true
}

func within(n, most int) bool { return n >= 1 && n <= most }

func noughts(s string) bool {
	for _, r := range s {
		if r != '0' {
			return false
		}
	}
	return true
}
