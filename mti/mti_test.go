package mti

import (
	"fmt"
	"math"
	"strings"
	"testing"
)

// others: bytes that are no digits, those next to 0 and 9 first.
var others = []byte{'/', ':', 'a', 'A', 'O', 'l', ' ', '+', '-', '.', '_', '\n', 0x00, 0x01, 0x09, 0x7f, 0x80, 0xb0, 0xb9, 0xff}

// samples: MTIs as they come.
var samples = []string{"0000", "0100", "0110", "0121", "0200", "0210", "0420", "0800", "1420", "1804", "2935", "9999"}

// wrongVersions: numbers that no digit is.
var wrongVersions = []int{-1, 10, -2, 11, -9, -10, 99, 100, 255, 256, 257, -255, -256, 1 << 32, 1<<32 + 1, -1 << 32, '0', '9', math.MinInt, math.MinInt + 1, math.MaxInt}

// every: each text of four digits, the least first.
func every() []string {
	list := make([]string, 10000)
	for n := range list {
		list[n] = fmt.Sprintf("%04d", n)
	}
	return list
}

// wrongLengths: digits, but not four.
func wrongLengths() []string {
	return []string{
		"", "0", "9", "02", "10", "020", "080", "999", "02000", "00200", "99999", "020000", "123456", "0200000",
		strings.Repeat("0", 255), strings.Repeat("0", 260), strings.Repeat("0200", 1000),
	}
}

// wrongBytes: texts of four bytes, one or all of which are no digits.
func wrongBytes() []string {
	var list []string
	for _, m := range []string{"0200", "0000", "1420", "9999"} {
		for at := range len(m) {
			for _, b := range others {
				list = append(list, m[:at]+string([]byte{b})+m[at+1:])
			}
		}
	}
	for _, b := range others {
		list = append(list, string([]byte{b, b, b, b}))
	}
	// Digits of other scripts, and a mark of a byte that can't be read: four bytes, or four characters.
	return append(list, "0\u06600", "\u0662\u0660", "\u0660\u0662\u0660\u0660", "\uff100", "0\ufffd", "\U0001d7ce", "020\u0660", "\u00b2\u00b2")
}

// wrongTexts: what is no MTI.
func wrongTexts() []string {
	list := append(wrongLengths(), wrongBytes()...)
	return append(list, " 0200", "0200 ", "0200\n", "\x000200", "0x02", "-200", "+200", "0200\x00", "02 00", "a", "ab", "abc", "abcde", "abcdef", "02a", "02a00", "0200a", "a0200", "0200ab")
}

func checkRight(t *testing.T, m string, want bool) {
	t.Helper()
	if got := Right(m); got != want {
		t.Errorf("Right(%q): %v", m, got)
	}
}

func checkVersion(t *testing.T, m string, want int, ok bool) {
	t.Helper()
	if v, k := Version(m); v != want || k != ok {
		t.Errorf("Version(%q): %d, %v; want %d, %v", m, v, k, want, ok)
	}
}

func checkWith(t *testing.T, m string, version int, want string, ok bool) {
	t.Helper()
	if s, k := With(m, version); s != want || k != ok {
		t.Errorf("With(%q, %d): %q, %v; want %q, %v", m, version, s, k, want, ok)
	}
}

func checkRequest(t *testing.T, m string, want bool) {
	t.Helper()
	if got := Request(m); got != want {
		t.Errorf("Request(%q): %v", m, got)
	}
}

func checkResponse(t *testing.T, m, want string, ok bool) {
	t.Helper()
	if s, k := Response(m); s != want || k != ok {
		t.Errorf("Response(%q): %q, %v; want %q, %v", m, s, k, want, ok)
	}
}

// P15.1: Right

func TestRightOfLengths(t *testing.T) {
	for length := 0; length <= 6; length++ {
		for _, digit := range []string{"0", "5", "9"} {
			checkRight(t, strings.Repeat(digit, length), length == 4)
		}
		checkRight(t, "020000"[:length], length == 4)
		checkRight(t, strings.Repeat("a", length), false)
	}
	for _, m := range wrongLengths() {
		checkRight(t, m, false)
	}
}

func TestRightOfEachByteAtEachPlace(t *testing.T) {
	for at := range 4 {
		for b := range 256 {
			m := []byte("0200")
			m[at] = byte(b)
			checkRight(t, string(m), b >= 0x30 && b <= 0x39)
		}
	}
}

func TestRightOfDigits(t *testing.T) {
	for _, m := range every() {
		checkRight(t, m, true)
	}
}

func TestRightOfWrongTexts(t *testing.T) {
	for _, m := range wrongTexts() {
		checkRight(t, m, false)
	}
}

// P15.1: Version

func TestVersionOfEachFirstDigit(t *testing.T) {
	for n, m := range every() {
		checkVersion(t, m, n/1000, true)
	}
	checkVersion(t, "0800", 0, true)
	checkVersion(t, "1804", 1, true)
	checkVersion(t, "9012", 9, true)
}

func TestVersionOfWrongTexts(t *testing.T) {
	for _, m := range wrongTexts() {
		checkVersion(t, m, 0, false)
	}
	// The first digit alone would be a version.
	for _, m := range []string{"9", "92", "920", "92000", "9x00", "92x0", "920x", "9200\n"} {
		checkVersion(t, m, 0, false)
	}
}

// P15.1: With

func TestWithOfEachVersion(t *testing.T) {
	checkWith(t, "0800", 1, "1800", true)
	checkWith(t, "1800", 0, "0800", true)
	for first := range 10 {
		for version := range 10 {
			for _, rest := range []string{"000", "200", "804", "123", "987", "999"} {
				checkWith(t, fmt.Sprint(first)+rest, version, fmt.Sprint(version)+rest, true)
			}
		}
	}
}

func TestWithKeepsTheOtherDigits(t *testing.T) {
	for n, m := range every() {
		version := n % 7
		s, ok := With(m, version)
		if !ok || len(s) != 4 || s[1:] != m[1:] || s[0] != "0123456789"[version] {
			t.Errorf("With(%q, %d): %q, %v", m, version, s, ok)
		}
		checkVersion(t, s, version, true)
		// With its own version again it is as it was.
		checkWith(t, s, n/1000, m, true)
	}
}

func TestWithOfWrongVersions(t *testing.T) {
	for _, version := range wrongVersions {
		for _, m := range samples {
			checkWith(t, m, version, "", false)
		}
		for _, m := range wrongTexts() {
			checkWith(t, m, version, "", false)
		}
	}
	for version := -300; version <= 300; version++ {
		if _, ok := With("0210", version); ok != (version >= 0 && version <= 9) {
			t.Errorf("With(0210, %d): %v", version, ok)
		}
	}
}

func TestWithOfWrongTexts(t *testing.T) {
	for _, m := range wrongTexts() {
		for version := range 10 {
			checkWith(t, m, version, "", false)
		}
	}
	// A wrong first byte isn't mended by another one.
	for _, b := range others {
		checkWith(t, string([]byte{b})+"200", 0, "", false)
	}
}

// P15.2: Request

func TestRequestOfEachFunction(t *testing.T) {
	for function := range 10 {
		checkRequest(t, fmt.Sprintf("02%d0", function), function == 0 || function == 2)
	}
	for n, m := range every() {
		function := n / 10 % 10
		checkRequest(t, m, function == 0 || function == 2)
	}
	checkRequest(t, "0210", false)
}

func TestRequestOfWrongTexts(t *testing.T) {
	for _, m := range wrongTexts() {
		checkRequest(t, m, false)
	}
	// The function would ask, if the rest were right.
	for _, m := range []string{"020", "02000", "a200", "0a00", "020a", "a220", "0a20", "022a", "022", "02200"} {
		checkRequest(t, m, false)
	}
}

// P15.2: Response

func TestResponseOfExamples(t *testing.T) {
	for _, x := range []struct{ asked, answer string }{
		{"0200", "0210"}, {"1420", "1430"}, {"0100", "0110"}, {"0121", "0131"}, {"0800", "0810"}, {"1804", "1814"}, {"0000", "0010"}, {"9929", "9939"}, {"2222", "2232"},
	} {
		checkResponse(t, x.asked, x.answer, true)
	}
}

func TestResponseOfEachFunction(t *testing.T) {
	answers := []string{0: "1", 2: "3", 9: ""}
	for n, m := range every() {
		answer := answers[n/10%10]
		if answer == "" {
			checkResponse(t, m, "", false)
			continue
		}
		checkResponse(t, m, m[:2]+answer+m[3:], true)
	}
}

func TestResponseOfWrongTexts(t *testing.T) {
	for _, m := range wrongTexts() {
		checkResponse(t, m, "", false)
	}
	for _, m := range []string{"020", "02000", "a200", "0a00", "020a", "a220", "0a20", "022a", "022", "02200"} {
		checkResponse(t, m, "", false)
	}
}

func TestNoAnswerAsks(t *testing.T) {
	asking := 0
	for _, m := range every() {
		answer, ok := Response(m)
		if ok != Request(m) {
			t.Errorf("Response(%q): %v", m, ok)
		}
		if !ok {
			continue
		}
		asking++
		checkRight(t, answer, true)
		checkRequest(t, answer, false)
		checkResponse(t, answer, "", false)
	}
	if asking != 2000 {
		t.Errorf("%d ask; want 2000", asking)
	}
}

// Whether the version is changed ahead of answering or behind it, the answer is the same.
func TestVersionsAndAnswersKeepApart(t *testing.T) {
	for _, m := range samples {
		for version := range 10 {
			changed, _ := With(m, version)
			late, asks := Response(changed)
			answer, _ := Response(m)
			early, ok := With(answer, version)
			if late != early || asks != ok || asks != Request(m) {
				t.Errorf("%q, version %d: %q, %v and %q, %v", m, version, late, asks, early, ok)
			}
		}
	}
}
