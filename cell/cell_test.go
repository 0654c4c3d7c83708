package cell

import (
	"encoding/hex"
	"fmt"
	"math"
	"slices"
	"strings"
	"testing"

	"groat/api"
)

var (
	bothStyles = []int{api.SAscii, api.SBinary}
	noStyles   = []int{math.MinInt, -2, -1, 0, 3, 4, 256, 257, 258, 1 << 32, 1<<32 + 1, 1<<32 + 2, math.MaxInt}
	allClasses = []int{api.CDigits, api.CLetters, api.CAlnum, api.CPrint, api.CBytes, api.CTlv}
	allForms   = []int{api.FFixed, api.FTwo, api.FThree}
)

func of(class, form, least, greatest int) api.Spec {
	return api.Spec{No: 60, Class: class, Form: form, Min: least, Max: greatest}
}

// noSpecs: specs that may not stand in a schema, by each of layer 11's errors.
func noSpecs() []api.Spec {
	return []api.Spec{
		{},
		{No: 1, Class: api.CDigits, Form: api.FTwo, Min: 1, Max: 9}, {No: 129, Class: api.CDigits, Form: api.FTwo, Min: 1, Max: 9}, {No: -2, Class: api.CPrint, Form: api.FFixed, Min: 3, Max: 3},
		of(0, api.FTwo, 1, 9), of(7, api.FTwo, 1, 9), of(-1, api.FThree, 1, 9), of(1<<32+1, api.FFixed, 3, 3),
		of(api.CDigits, 0, 1, 9), of(api.CDigits, 4, 1, 9), of(api.CBytes, -1, 3, 3), of(api.CPrint, 1<<32+2, 1, 9),
		of(api.CDigits, api.FTwo, 0, 9), of(api.CBytes, api.FTwo, 1, 100), of(api.CPrint, api.FThree, 1, 1000), of(api.CAlnum, api.FThree, 9, 1),
		of(api.CDigits, api.FFixed, 1, 9), of(api.CDigits, api.FFixed, 0, 0), of(api.CBytes, api.FFixed, 1000, 1000), of(api.CBytes, api.FThree, math.MinInt, math.MaxInt),
		of(api.CTlv, api.FFixed, 3, 3),
	}
}

// edges: for each class and form specs that may stand, of the least, the greatest and other lengths.
func edges() []api.Spec {
	var all []api.Spec
	for _, class := range allClasses {
		least := 1
		if class == api.CTlv {
			least = 2
		}
		for _, x := range [][2]int{{least, 19}, {least, 99}, {9, 10}, {12, 12}, {13, 13}, {98, 99}, {99, 99}} {
			all = append(all, of(class, api.FTwo, x[0], x[1]))
		}
		for _, x := range [][2]int{{least, 19}, {least, 999}, {9, 10}, {99, 100}, {101, 101}, {998, 999}, {999, 999}} {
			all = append(all, of(class, api.FThree, x[0], x[1]))
		}
		for _, n := range []int{1, 2, 3, 6, 7, 12, 99, 100, 101, 998, 999} {
			if class != api.CTlv {
				all = append(all, of(class, api.FFixed, n, n))
			}
		}
	}
	return all
}

// lengths: those of a spec's values at its ends, and in between, of odd and even counts.
func lengths(s api.Spec) []int {
	all := []int{s.Min, min(s.Min+1, s.Max), (s.Min + s.Max) / 2, max(s.Max-1, s.Min), s.Max}
	slices.Sort(all)
	return slices.Compact(all)
}

// signs: each class's bytes, by another way than the program's.
func signs(class int) string {
	const digits, letters = "0123456789", "ABCDEFGHIJKLMNOPQRSTUVWXYZabcdefghijklmnopqrstuvwxyz"
	switch class {
	case api.CDigits:
		return digits
	case api.CLetters:
		return letters
	case api.CAlnum:
		return digits + letters
	case api.CPrint:
		return digits + letters + " !\"#$%&'()*+,-./:;<=>?@[\\]^_`{|}~"
	}
	return everyByte()
}

func everyByte() string {
	var all []byte
	for b := range 256 {
		all = append(all, byte(b))
	}
	return string(all)
}

// filled: a text of so many bytes that may be a value of a class, begun at another of its bytes by each turn; of CTlv from 2 bytes on.
func filled(class, n, turn int) string {
	if class == api.CTlv {
		return filledList(n, turn)
	}
	text := signs(class)
	text = text[turn%len(text):] + text[:turn%len(text)]
	return strings.Repeat(text, n/len(text)+1)[:n]
}

func filledList(n, turn int) string {
	value := func(n int) string { return filled(api.CBytes, n, turn) }
	switch {
	case n < 130:
		return "\x82" + string([]byte{byte(n - 2)}) + value(n-2)
	case n == 130 || n == 259:
		// No one value takes so many, as its length would take one byte more.
		return filledList(n-2, turn) + "\x84\x00"
	case n < 259:
		return "\x82\x81" + string([]byte{byte(n - 3)}) + value(n-3)
	}
	return "\x82\x82" + string([]byte{byte((n - 4) >> 8), byte(n - 4)}) + value(n-4)
}

// halves: digits of sixteen as bytes, with a 0 ahead of an odd count.
func halves(s string) string {
	if len(s)%2 == 1 {
		s = "0" + s
	}
	b, err := hex.DecodeString(s)
	if err != nil {
		panic(err)
	}
	return string(b)
}

// lengthOf: the bytes of a length, by another way than the program's.
func lengthOf(style, form, n int) string {
	b := ""
	switch form {
	case api.FTwo:
		b = fmt.Sprintf("%02d", n)
	case api.FThree:
		b = fmt.Sprintf("%03d", n)
	}
	if style == api.SBinary {
		return halves(b)
	}
	return b
}

// valueOf: the bytes of a value without its length, by another way than the program's.
func valueOf(style, class int, text string) string {
	switch {
	case style == api.SBinary && class == api.CDigits:
		return halves(text)
	case style == api.SAscii && class >= api.CBytes:
		return fmt.Sprintf("%X", text)
	}
	return text
}

func bytesOf(style int, s api.Spec, text string) string {
	return lengthOf(style, s.Form, len(text)) + valueOf(style, s.Class, text)
}

// with: a text with another byte at a place.
func with(s string, at int, b byte) string { return s[:at] + string([]byte{b}) + s[at+1:] }

func short(s string) string { return fmt.Sprintf("% X of %d", s[:min(len(s), 40)], len(s)) }

func checkPut(t *testing.T, style int, s api.Spec, text, want string) {
	t.Helper()
	if got, err := Put(style, s, text); got != want || err != api.OK {
		t.Errorf("Put(%d, %v, %s): %s, %d; want %s, 0", style, s, short(text), short(got), err, short(want))
	}
}

func checkPutWrong(t *testing.T, style int, s api.Spec, text string, want api.Errno) {
	t.Helper()
	if got, err := Put(style, s, text); got != "" || err != want {
		t.Errorf("Put(%d, %v, %s): %s, %d; want none, %d", style, s, short(text), short(got), err, want)
	}
}

func checkGet(t *testing.T, style int, s api.Spec, b string, at int, want string, behind int) {
	t.Helper()
	if got, next, err := Get(style, s, b, at); got != want || next != behind || err != api.OK {
		t.Errorf("Get(%d, %v, %s, %d): %s, %d, %d; want %s, %d, 0", style, s, short(b), at, short(got), next, err, short(want), behind)
	}
}

func checkGetWrong(t *testing.T, style int, s api.Spec, b string, at int, want api.Errno) {
	t.Helper()
	if got, next, err := Get(style, s, b, at); got != "" || next != 0 || err != want {
		t.Errorf("Get(%d, %v, %s, %d): %s, %d, %d; want none, 0, %d", style, s, short(b), at, short(got), next, err, want)
	}
}

// samples: values, and their very bytes by both styles.
var samples = []struct {
	s                   api.Spec
	text, ascii, binary string
}{
	// The chapter's examples, and those of the whole.
	{of(api.CDigits, api.FTwo, 1, 19), "4111", "044111", "\x04\x41\x11"},
	{of(api.CBytes, api.FFixed, 2, 2), "\x0a\xff", "0AFF", "\x0a\xff"},
	{of(api.CTlv, api.FThree, 1, 255), "\x82\x01\x61", "003820161", "\x00\x03\x82\x01\x61"},
	{of(api.CDigits, api.FFixed, 6, 6), "000001", "000001", "\x00\x00\x01"},
	{of(api.CDigits, api.FFixed, 3, 3), "301", "301", "\x03\x01"},
	// Each class with each form, of odd counts and of even ones.
	{of(api.CDigits, api.FFixed, 1, 1), "7", "7", "\x07"},
	{of(api.CDigits, api.FFixed, 2, 2), "70", "70", "\x70"},
	{of(api.CDigits, api.FTwo, 1, 19), "7", "017", "\x01\x07"},
	{of(api.CDigits, api.FTwo, 1, 19), "41112", "0541112", "\x05\x04\x11\x12"},
	{of(api.CDigits, api.FThree, 1, 999), "4111", "0044111", "\x00\x04\x41\x11"},
	{of(api.CDigits, api.FThree, 1, 999), "999", "003999", "\x00\x03\x09\x99"},
	{of(api.CDigits, api.FThree, 1, 999), "012345678901", "012012345678901", "\x00\x12\x01\x23\x45\x67\x89\x01"},
	{of(api.CLetters, api.FFixed, 3, 3), "EUr", "EUr", "EUr"},
	{of(api.CLetters, api.FTwo, 1, 19), "EUr", "03EUr", "\x03EUr"},
	{of(api.CLetters, api.FThree, 1, 120), "zA", "002zA", "\x00\x02zA"},
	{of(api.CAlnum, api.FFixed, 4, 4), "a1B2", "a1B2", "a1B2"},
	{of(api.CAlnum, api.FTwo, 1, 19), "0a1B2c3D4e", "100a1B2c3D4e", "\x100a1B2c3D4e"},
	{of(api.CAlnum, api.FThree, 1, 120), "12", "00212", "\x00\x0212"},
	{of(api.CPrint, api.FFixed, 3, 3), " ~ ", " ~ ", " ~ "},
	{of(api.CPrint, api.FTwo, 1, 19), "A B", "03A B", "\x03A B"},
	{of(api.CPrint, api.FThree, 1, 120), "A B", "003A B", "\x00\x03A B"},
	{of(api.CBytes, api.FFixed, 1, 1), "\x00", "00", "\x00"},
	{of(api.CBytes, api.FTwo, 1, 19), "\x00a\xff", "030061FF", "\x03\x00a\xff"},
	{of(api.CBytes, api.FThree, 1, 120), "41", "0023431", "\x00\x0241"},
	{of(api.CTlv, api.FTwo, 1, 19), "\x5a\x00", "025A00", "\x02\x5a\x00"},
	{of(api.CTlv, api.FTwo, 1, 19), "\x9f\x02\x02\x01\x00\x5a\x00", "079F020201005A00", "\x07\x9f\x02\x02\x01\x00\x5a\x00"},
	{of(api.CTlv, api.FThree, 1, 255), "\x82\x0aabcdefghij", "012820A6162636465666768696A", "\x00\x12\x82\x0aabcdefghij"},
}

// P12.1

func TestPutOrdinary(t *testing.T) {
	for _, x := range samples {
		checkPut(t, api.SAscii, x.s, x.text, x.ascii)
		checkPut(t, api.SBinary, x.s, x.text, x.binary)
	}
}

func TestPutOfTheEdges(t *testing.T) {
	for _, s := range edges() {
		for _, style := range bothStyles {
			for turn, n := range lengths(s) {
				text := filled(s.Class, n, turn)
				checkPut(t, style, s, text, bytesOf(style, s, text))
			}
		}
	}
}

func TestPutEachLength(t *testing.T) {
	for _, class := range allClasses {
		for n := 2; n <= 999; n++ {
			text := filled(class, n, n)
			for _, style := range bothStyles {
				s := of(class, api.FThree, 1, 999)
				checkPut(t, style, s, text, bytesOf(style, s, text))
				if n <= 99 {
					s = of(class, api.FTwo, 1, 99)
					checkPut(t, style, s, text, bytesOf(style, s, text))
				}
				if class != api.CTlv {
					s = of(class, api.FFixed, n, n)
					checkPut(t, style, s, text, bytesOf(style, s, text))
				}
			}
		}
	}
}

// TestPutOfTheGreatest: of Max 99 and Max 999 the length's bytes, and how many bytes there are in all.
func TestPutOfTheGreatest(t *testing.T) {
	for _, x := range []struct {
		style, form, class, n, size int
		ahead                       string
	}{
		{api.SAscii, api.FTwo, api.CDigits, 99, 101, "99"}, {api.SBinary, api.FTwo, api.CDigits, 99, 51, "\x99"},
		{api.SAscii, api.FTwo, api.CPrint, 99, 101, "99"}, {api.SBinary, api.FTwo, api.CPrint, 99, 100, "\x99"},
		{api.SAscii, api.FTwo, api.CBytes, 99, 200, "99"}, {api.SBinary, api.FTwo, api.CBytes, 99, 100, "\x99"},
		{api.SAscii, api.FTwo, api.CTlv, 99, 200, "99"}, {api.SBinary, api.FTwo, api.CTlv, 99, 100, "\x99"},
		{api.SAscii, api.FThree, api.CDigits, 999, 1002, "999"}, {api.SBinary, api.FThree, api.CDigits, 999, 502, "\x09\x99"},
		{api.SAscii, api.FThree, api.CPrint, 999, 1002, "999"}, {api.SBinary, api.FThree, api.CPrint, 999, 1001, "\x09\x99"},
		{api.SAscii, api.FThree, api.CBytes, 999, 2001, "999"}, {api.SBinary, api.FThree, api.CBytes, 999, 1001, "\x09\x99"},
		{api.SAscii, api.FThree, api.CTlv, 999, 2001, "999"}, {api.SBinary, api.FThree, api.CTlv, 999, 1001, "\x09\x99"},
	} {
		s, text := of(x.class, x.form, 1, x.n), filled(x.class, x.n, 1)
		b, err := Put(x.style, s, text)
		if err != api.OK || len(b) != x.size || !strings.HasPrefix(b, x.ahead) {
			t.Errorf("Put(%d, %v, ..): %s, %d; want %d bytes", x.style, s, short(b), err, x.size)
		}
		checkGet(t, x.style, s, b, 0, text, x.size)
	}
}

// TestPutWrongStyle: that is told ahead of all else.
func TestPutWrongStyle(t *testing.T) {
	for _, style := range noStyles {
		for _, x := range samples {
			for _, text := range []string{x.text, "", "\x00", strings.Repeat("1", 1000)} {
				checkPutWrong(t, style, x.s, text, api.ErrArg)
			}
		}
		for _, s := range noSpecs() {
			checkPutWrong(t, style, s, "123", api.ErrArg)
		}
	}
}

func TestPutOfSpecsThatMayNotStand(t *testing.T) {
	for _, s := range noSpecs() {
		for _, style := range bothStyles {
			for _, text := range []string{"", "1", "123", "a", "\x82\x01a", "\x00", strings.Repeat("1", 1000)} {
				checkPutWrong(t, style, s, text, api.ErrArg)
			}
		}
	}
}

func TestPutOfLengthsThatMayNotBe(t *testing.T) {
	for _, s := range edges() {
		for _, style := range bothStyles {
			checkPutWrong(t, style, s, "", api.ErrRange)
			checkPutWrong(t, style, s, filled(s.Class, s.Max+1, 0), api.ErrRange)
			if s.Min > 2 {
				checkPutWrong(t, style, s, filled(s.Class, s.Min-1, 0), api.ErrRange)
			}
		}
	}
}

func TestPutOfBytesThatMayNotBe(t *testing.T) {
	for _, class := range allClasses[:4] {
		good := filled(class, 5, 0)
		for _, b := range []byte(everyByte()) {
			for at := range good {
				text := with(good, at, b)
				for _, form := range allForms {
					for _, style := range bothStyles {
						s := of(class, form, 5, 5)
						if strings.IndexByte(signs(class), b) < 0 {
							checkPutWrong(t, style, s, text, api.ErrClass)
							continue
						}
						checkPut(t, style, s, text, bytesOf(style, s, text))
					}
				}
			}
		}
	}
}

// noLists: bytes that are no list's, of at least 2.
var noLists = []string{
	"\x00\x00", "\x00\x01a", "\x70\x01a", "\x9f\x00\x01a", "\x9f\x81\x01\x01a", // tags that are none
	"\x9f\x02", "\x82\x81", "\x82\x82", "\x82\x82\x01", // a length that isn't all there
	"\x82\x80", "\x82\x81\x01a", "\x82\x82\x00\x01a", "\x82\xff", // lengths that are none
	"\x82\x01", "\x82\x02a", "\x5a\x00\x82\x02a", // a value that isn't all there
	"\x5a\x01\x41\x5a\x00", "\x82\x00\x82\x00", // a tag twice
	"\x82\x01a\x00", "\x82\x01a\x9f", "\x82\x00\x84", "4111", // right ones, and what is none behind
}

func TestPutOfTextsThatAreNoLists(t *testing.T) {
	for _, text := range noLists {
		for _, style := range bothStyles {
			checkPutWrong(t, style, of(api.CTlv, api.FTwo, 1, 19), text, api.ErrTag)
			checkPutWrong(t, style, of(api.CTlv, api.FThree, 1, 255), text, api.ErrTag)
			checkPut(t, style, of(api.CBytes, api.FTwo, 1, 19), text, bytesOf(style, of(api.CBytes, api.FTwo, 1, 19), text))
		}
	}
}

func TestPutTellsTheFirstFault(t *testing.T) {
	for _, style := range bothStyles {
		checkPutWrong(t, style, of(api.CDigits, api.FTwo, 3, 5), "1a", api.ErrRange)
		checkPutWrong(t, style, of(api.CDigits, api.FTwo, 3, 5), "12345a", api.ErrRange)
		checkPutWrong(t, style, of(api.CDigits, api.FFixed, 3, 3), "1234", api.ErrRange)
		checkPutWrong(t, style, of(api.CTlv, api.FTwo, 3, 5), "\x82\x01", api.ErrRange)
		checkPutWrong(t, style, of(api.CTlv, api.FTwo, 3, 5), "\x00\x00\x00\x00\x00\x00", api.ErrRange)
		checkPutWrong(t, style, of(api.CTlv, api.FFixed, 3, 3), "\x82\x01a", api.ErrArg)
		checkPutWrong(t, style, of(api.CDigits, api.FTwo, 5, 3), "a", api.ErrArg)
	}
	checkPutWrong(t, 3, of(api.CDigits, api.FTwo, 3, 5), "1a", api.ErrArg)
}

// P12.2

func TestGetOrdinary(t *testing.T) {
	for _, x := range samples {
		checkGet(t, api.SAscii, x.s, x.ascii, 0, x.text, len(x.ascii))
		checkGet(t, api.SBinary, x.s, x.binary, 0, x.text, len(x.binary))
	}
}

func TestGetOfTheEdges(t *testing.T) {
	for _, s := range edges() {
		for _, style := range bothStyles {
			for turn, n := range lengths(s) {
				text := filled(s.Class, n, turn)
				b := bytesOf(style, s, text)
				checkGet(t, style, s, b, 0, text, len(b))
				checkGet(t, style, s, "04\xff"+b+"\x990", 3, text, 3+len(b))
			}
		}
	}
}

func TestGetEachLength(t *testing.T) {
	for _, class := range allClasses {
		for n := 2; n <= 999; n++ {
			text := filled(class, n, n)
			for _, style := range bothStyles {
				for _, s := range []api.Spec{of(class, api.FThree, 1, 999), of(class, api.FTwo, 1, 99), of(class, api.FFixed, n, n)} {
					if s.Max < n || class == api.CTlv && s.Form == api.FFixed {
						continue
					}
					b := bytesOf(style, s, text)
					checkGet(t, style, s, b, 0, text, len(b))
				}
			}
		}
	}
}

// TestGetAtPlaces: a place from 0 to the length of b is one; at the length of b all is cut off.
func TestGetAtPlaces(t *testing.T) {
	for _, x := range samples {
		for _, style := range bothStyles {
			b := bytesOf(style, x.s, x.text)
			for _, ahead := range []string{"", "0", "\xff\x00", strings.Repeat("9", 40)} {
				whole := ahead + b
				checkGet(t, style, x.s, whole, len(ahead), x.text, len(whole))
				checkGetWrong(t, style, x.s, whole, len(whole), api.ErrCut)
				for _, at := range []int{-1, -2, -len(whole), len(whole) + 1, len(whole) + 2, 1 << 32, math.MinInt, math.MaxInt} {
					checkGetWrong(t, style, x.s, whole, at, api.ErrArg)
				}
			}
			checkGetWrong(t, style, x.s, "", 0, api.ErrCut)
			checkGetWrong(t, style, x.s, "", 1, api.ErrArg)
			checkGetWrong(t, style, x.s, "", -1, api.ErrArg)
		}
	}
}

func TestGetWrongStyle(t *testing.T) {
	for _, style := range noStyles {
		for _, x := range samples {
			for _, b := range []string{x.ascii, x.binary, "", "\xff"} {
				for _, at := range []int{0, len(b), -1, len(b) + 1} {
					checkGetWrong(t, style, x.s, b, at, api.ErrArg)
				}
			}
		}
		for _, s := range noSpecs() {
			checkGetWrong(t, style, s, "03123", 0, api.ErrArg)
		}
	}
}

func TestGetOfSpecsThatMayNotStand(t *testing.T) {
	for _, s := range noSpecs() {
		for _, style := range bothStyles {
			for _, b := range []string{"", "1", "123", "03123", "003820161", "\x03\x82\x01a", "\x00\x03\x82\x01a", "\xff", strings.Repeat("1", 2000)} {
				for _, at := range []int{0, len(b), -1, len(b) + 1} {
					checkGetWrong(t, style, s, b, at, api.ErrArg)
				}
			}
		}
	}
}

// TestGetCutAnywhere: what lacks a byte, or more, up to all of them, is cut: within the length, at its end, and within the value.
func TestGetCutAnywhere(t *testing.T) {
	for _, x := range samples {
		for _, style := range bothStyles {
			b := bytesOf(style, x.s, x.text)
			for n := range len(b) {
				checkGetWrong(t, style, x.s, b[:n], 0, api.ErrCut)
				checkGetWrong(t, style, x.s, "00"+b[:n], 2, api.ErrCut)
			}
		}
	}
	for _, s := range edges() {
		for _, style := range bothStyles {
			b := bytesOf(style, s, filled(s.Class, s.Max, 0))
			ahead := len(lengthOf(style, s.Form, s.Max))
			for _, n := range []int{0, ahead - 1, ahead, ahead + 1, (ahead + len(b)) / 2, len(b) - 2, len(b) - 1} {
				if n >= 0 && n < len(b) {
					checkGetWrong(t, style, s, b[:n], 0, api.ErrCut)
				}
			}
		}
	}
}

// TestGetOfLengthsThatAreNone: each byte at each place of a length by digits, and each byte and pair of bytes by packed digits.
func TestGetOfLengthsThatAreNone(t *testing.T) {
	for _, class := range allClasses {
		for _, b := range []byte(everyByte()) {
			if b >= '0' && b <= '9' {
				continue
			}
			for at := range 3 {
				checkGetWrong(t, api.SAscii, of(class, api.FThree, 1, 999), with("002", at, b)+"8200", 0, api.ErrForm)
			}
			for at := range 2 {
				checkGetWrong(t, api.SAscii, of(class, api.FTwo, 1, 99), with("02", at, b)+"8200", 0, api.ErrForm)
			}
		}
		for x := range 1 << 16 {
			b := string([]byte{byte(x >> 8), byte(x)})
			if x>>12 > 0 || x>>8&15 > 9 || x>>4&15 > 9 || x&15 > 9 {
				checkGetWrong(t, api.SBinary, of(class, api.FThree, 1, 999), b+"\x82\x00", 0, api.ErrForm)
			}
			if x < 256 && (x>>4 > 9 || x&15 > 9) {
				checkGetWrong(t, api.SBinary, of(class, api.FTwo, 1, 99), b[1:]+"\x82\x00", 0, api.ErrForm)
			}
		}
	}
}

func TestGetOfLengthsOutOfRange(t *testing.T) {
	for _, class := range allClasses {
		for _, style := range bothStyles {
			for _, x := range []struct{ form, least, greatest, most int }{
				{api.FTwo, 5, 19, 99}, {api.FTwo, 1, 98, 99}, {api.FTwo, 99, 99, 99}, {api.FTwo, 2, 2, 99},
				{api.FThree, 5, 19, 999}, {api.FThree, 1, 998, 999}, {api.FThree, 999, 999, 999}, {api.FThree, 99, 100, 999},
			} {
				s := of(class, x.form, x.least, x.greatest)
				for n := range x.most + 1 {
					if n >= x.least && n <= x.greatest {
						continue
					}
					ahead := lengthOf(style, x.form, n)
					checkGetWrong(t, style, s, ahead, 0, api.ErrRange)
					checkGetWrong(t, style, s, ahead+"\xff", 0, api.ErrRange)
					if n >= 2 {
						checkGetWrong(t, style, s, ahead+valueOf(style, class, filled(class, n, 0)), 0, api.ErrRange)
					}
				}
			}
		}
	}
}

// TestGetOfPackedHalves: each byte at each place of packed digits, of odd and of even counts.
func TestGetOfPackedHalves(t *testing.T) {
	for _, text := range []string{"1", "12", "123", "1234", "0000000", "00000000"} {
		for _, form := range allForms {
			s := of(api.CDigits, form, len(text), len(text))
			ahead := lengthOf(api.SBinary, form, len(text))
			packed := halves(text)
			for at := range len(packed) {
				for b := range 256 {
					field := ahead + with(packed, at, byte(b))
					first := at == 0 && len(text)%2 == 1
					switch {
					case first && b > 15:
						checkGetWrong(t, api.SBinary, s, field, 0, api.ErrPad)
					case b>>4 > 9 || b&15 > 9:
						checkGetWrong(t, api.SBinary, s, field, 0, api.ErrForm)
					default:
						digits := fmt.Sprintf("%x", with(packed, at, byte(b)))
						checkGet(t, api.SBinary, s, field, 0, digits[len(text)%2:], len(field))
					}
				}
			}
		}
	}
}

// TestGetOfDigitsOfSixteen: each byte at each place; small letters are none.
func TestGetOfDigitsOfSixteen(t *testing.T) {
	for _, form := range allForms {
		s := of(api.CBytes, form, 3, 3)
		ahead := lengthOf(api.SAscii, form, 3)
		for at := range 6 {
			for _, b := range []byte(everyByte()) {
				digits := with("820161", at, b)
				if strings.IndexByte("0123456789ABCDEF", b) < 0 {
					checkGetWrong(t, api.SAscii, s, ahead+digits, 0, api.ErrForm)
					if form != api.FFixed {
						checkGetWrong(t, api.SAscii, of(api.CTlv, form, 1, 9), ahead+digits, 0, api.ErrForm)
					}
					continue
				}
				checkGet(t, api.SAscii, s, ahead+digits, 0, halves(digits), len(ahead)+6)
			}
		}
	}
	for _, digits := range []string{"0aFF", "0Aff", "0AfF", "0AFf", "abcd"} {
		checkGetWrong(t, api.SAscii, of(api.CBytes, api.FFixed, 2, 2), digits, 0, api.ErrForm)
	}
}

// TestGetOfBytesThatMayNotBe: each byte at each place of a value that stands as it is.
func TestGetOfBytesThatMayNotBe(t *testing.T) {
	for _, class := range allClasses[:4] {
		for _, style := range bothStyles {
			if style == api.SBinary && class == api.CDigits {
				continue
			}
			for _, form := range allForms {
				s := of(class, form, 5, 5)
				ahead := lengthOf(style, form, 5)
				for at := range 5 {
					for _, b := range []byte(everyByte()) {
						text := with(filled(class, 5, 0), at, b)
						if strings.IndexByte(signs(class), b) < 0 {
							checkGetWrong(t, style, s, ahead+text, 0, api.ErrClass)
							continue
						}
						checkGet(t, style, s, ahead+text, 0, text, len(ahead)+5)
					}
				}
			}
		}
	}
}

func TestGetOfTextsThatAreNoLists(t *testing.T) {
	for _, text := range noLists {
		for _, style := range bothStyles {
			for _, s := range []api.Spec{of(api.CTlv, api.FTwo, 1, 19), of(api.CTlv, api.FThree, 1, 255)} {
				b := bytesOf(style, s, text)
				checkGetWrong(t, style, s, b, 0, api.ErrTag)
				checkGetWrong(t, style, s, "1"+b+"1", 1, api.ErrTag)
				s.Class = api.CBytes
				checkGet(t, style, s, b, 0, text, len(b))
			}
		}
	}
	// The bytes behind are no part of the list, though they'd make it whole.
	checkGetWrong(t, api.SBinary, of(api.CTlv, api.FTwo, 1, 19), "\x03\x82\x02ab", 0, api.ErrTag)
	checkGetWrong(t, api.SAscii, of(api.CTlv, api.FTwo, 1, 19), "0382026162", 0, api.ErrTag)
}

// TestGetTellsTheFirstFault: of several faults in one place the one that the chapter names first.
func TestGetTellsTheFirstFault(t *testing.T) {
	digits, bytes, list := of(api.CDigits, api.FTwo, 3, 5), of(api.CBytes, api.FTwo, 3, 5), of(api.CTlv, api.FThree, 3, 5)
	for _, x := range []struct {
		style int
		s     api.Spec
		b     string
		at    int
		want  api.Errno
	}{
		{3, digits, "x", 9, api.ErrArg}, {api.SAscii, digits, "x", 9, api.ErrArg}, {api.SAscii, of(api.CDigits, api.FTwo, 5, 3), "x", 0, api.ErrArg}, {api.SAscii, of(api.CTlv, api.FFixed, 3, 3), "", 0, api.ErrArg},
		{api.SAscii, digits, "x", 0, api.ErrCut}, {api.SAscii, list, "xx", 0, api.ErrCut}, {api.SBinary, list, "\xff", 0, api.ErrCut},
		{api.SAscii, digits, "xx", 0, api.ErrForm}, {api.SAscii, digits, "9x", 0, api.ErrForm}, {api.SBinary, digits, "\x9a", 0, api.ErrForm}, {api.SBinary, list, "\x10\x04\x82\x02ab", 0, api.ErrForm}, {api.SBinary, list, "\x19\x99", 0, api.ErrForm},
		{api.SAscii, digits, "02", 0, api.ErrRange}, {api.SAscii, digits, "06", 0, api.ErrRange}, {api.SAscii, digits, "00", 0, api.ErrRange}, {api.SAscii, digits, "06aaaaaa", 0, api.ErrRange}, {api.SBinary, digits, "\x99\xff", 0, api.ErrRange}, {api.SBinary, list, "\x09\x99", 0, api.ErrRange}, {api.SAscii, list, "002gggg", 0, api.ErrRange}, {api.SAscii, bytes, "06gg", 0, api.ErrRange},
		{api.SAscii, digits, "04aaa", 0, api.ErrCut}, {api.SBinary, digits, "\x03\xff", 0, api.ErrCut}, {api.SBinary, digits, "\x05\x10\xff", 0, api.ErrCut}, {api.SAscii, bytes, "03ggggg", 0, api.ErrCut}, {api.SAscii, list, "003gg000", 0, api.ErrCut}, {api.SBinary, list, "\x00\x04\x00\x00\x00", 0, api.ErrCut}, {api.SBinary, of(api.CLetters, api.FFixed, 3, 3), "11", 0, api.ErrCut},
		{api.SBinary, digits, "\x03\x1a\xff", 0, api.ErrPad}, {api.SBinary, digits, "\x03\xff\xff", 0, api.ErrPad}, {api.SBinary, digits, "\x03\x0a\x1f", 0, api.ErrForm}, {api.SBinary, digits, "\x04\x1a\xff", 0, api.ErrForm},
		{api.SAscii, list, "00300000g", 0, api.ErrForm}, {api.SAscii, list, "003000000", 0, api.ErrTag}, {api.SAscii, list, "0038202ab", 0, api.ErrForm}, {api.SAscii, list, "0038202AB", 0, api.ErrTag},
	} {
		checkGetWrong(t, x.style, x.s, x.b, x.at, x.want)
		if x.want != api.ErrArg {
			checkGetWrong(t, x.style, x.s, "0"+x.b, 1, x.want)
		}
	}
}

// reader reads fields by the chapter's words, step by step, as a second reader; it knows the bytes of all lengths of its style and form.
type reader struct {
	style int
	s     api.Spec
	told  map[string]int
	rest  string
}

func newReader(style int, s api.Spec) *reader {
	told := map[string]int{}
	for n := range map[int]int{api.FTwo: 100, api.FThree: 1000}[s.Form] {
		told[lengthOf(style, s.Form, n)] = n
	}
	return &reader{style: style, s: s, told: told}
}

// take: so many bytes from the front.
func (r *reader) take(n int) (string, bool) {
	if len(r.rest) < n {
		return "", false
	}
	b := r.rest[:n]
	r.rest = r.rest[n:]
	return b, true
}

// count: the length that is told; of FFixed that of the spec.
func (r *reader) count() (int, api.Errno) {
	if r.s.Form == api.FFixed {
		return r.s.Min, api.OK
	}
	b, ok := r.take(len(lengthOf(r.style, r.s.Form, 0)))
	if !ok {
		return 0, api.ErrCut
	}
	n, ok := r.told[b]
	if !ok {
		return 0, api.ErrForm
	}
	if n < r.s.Min || n > r.s.Max {
		return 0, api.ErrRange
	}
	return n, api.OK
}

// plain: the value of so many bytes, of whatever class.
func (r *reader) plain(n int) (string, api.Errno) {
	model := strings.Repeat("0", n)
	b, ok := r.take(len(valueOf(r.style, r.s.Class, model)))
	if !ok {
		return "", api.ErrCut
	}
	switch {
	case r.style == api.SBinary && r.s.Class == api.CDigits:
		all := fmt.Sprintf("%x", b)
		if n%2 == 1 && all[0] != '0' {
			return "", api.ErrPad
		}
		if strings.Trim(all, "0123456789") != "" {
			return "", api.ErrForm
		}
		return all[n%2:], api.OK
	case r.style == api.SAscii && r.s.Class >= api.CBytes:
		raw, err := hex.DecodeString(b)
		if err != nil || strings.ToUpper(b) != b {
			return "", api.ErrForm
		}
		return string(raw), api.OK
	}
	return b, api.OK
}

// isList: whether bytes are a list's, by another way than the program's.
func isList(b string) bool {
	var ahead []string
	for b != "" {
		size := 1
		if b[0]&31 == 31 {
			size = 2
		}
		if len(b) <= size || b[0] == 0 || b[0]&32 != 0 || size == 2 && (b[1] == 0 || b[1] > 127) || slices.Contains(ahead, b[:size]) {
			return false
		}
		ahead = append(ahead, b[:size])
		// No list here is long enough for a length of more than one byte.
		n, behind := int(b[size]), b[size+1:]
		if n > len(behind) {
			return false
		}
		b = behind[n:]
	}
	return true
}

// field: the value, and what is wrong.
func (r *reader) field() (string, api.Errno) {
	n, err := r.count()
	if err != api.OK {
		return "", err
	}
	text, err := r.plain(n)
	if err != api.OK {
		return "", err
	}
	for _, b := range []byte(text) {
		if strings.IndexByte(signs(r.s.Class), b) < 0 {
			return "", api.ErrClass
		}
	}
	if r.s.Class == api.CTlv && !isList(text) {
		return "", api.ErrTag
	}
	return text, api.OK
}

// smallSpecs: each class with each form, of values of few bytes.
func smallSpecs() []api.Spec {
	var all []api.Spec
	for _, class := range allClasses {
		for _, x := range [][2]int{{1, 1}, {1, 2}, {2, 2}, {2, 3}, {3, 3}} {
			all = append(all, of(class, api.FTwo, x[0], x[1]), of(class, api.FThree, x[0], x[1]))
			if x[0] == x[1] && class != api.CTlv {
				all = append(all, of(class, api.FFixed, x[0], x[1]))
			}
		}
	}
	return all
}

// heads: lengths of few bytes, such as are cut, and such as are none; of FFixed nothing.
func heads(style, form int) []string {
	if form == api.FFixed {
		return []string{""}
	}
	var all []string
	for n := range 5 {
		all = append(all, lengthOf(style, form, n))
	}
	ten, one := lengthOf(style, form, 10), lengthOf(style, form, 1)
	return append(all, ten, ten[1:], one[1:], with(one, 0, 'A'), with(one, len(one)-1, 'A'), with(one, 0, '\xf0'), with(one, len(one)-1, '\x0f'))
}

// tails: all texts of up to 4 bytes out of few, of which values are spelt, and of such as are none of them.
func tails(style, class int) []string {
	some := "019aZ~\x80"
	switch {
	case style == api.SBinary && class == api.CDigits:
		some = "\x00\x01\x10\x99\x0a\xa0"
	case style == api.SAscii && class >= api.CBytes:
		some = "0258Aa"
	case class == api.CTlv:
		some = "\x00\x01\x02\x5a\x82\x9f"
	}
	all, longest := []string{""}, []string{""}
	for range 4 {
		var longer []string
		for _, text := range longest {
			for i := range len(some) {
				longer = append(longer, text+some[i:i+1])
			}
		}
		all, longest = append(all, longer...), longer
	}
	return all
}

// eachShort: calls back with many short texts, under each small spec by each style.
func eachShort(tell func(r *reader, b string)) {
	for _, s := range smallSpecs() {
		for _, style := range bothStyles {
			r := newReader(style, s)
			for _, head := range heads(style, s.Form) {
				for _, tail := range tails(style, s.Class) {
					tell(r, head+tail)
				}
			}
		}
	}
}

// TestGetAgainstAnotherReader: short texts of bytes by which lengths, digits, letters and tags are made, and of such as are none of them.
func TestGetAgainstAnotherReader(t *testing.T) {
	told := map[api.Errno]int{}
	eachShort(func(r *reader, b string) {
		r.rest = b
		text, err := r.field()
		told[err]++
		if err != api.OK {
			checkGetWrong(t, r.style, r.s, b, 0, err)
			return
		}
		checkGet(t, r.style, r.s, b, 0, text, len(b)-len(r.rest))
	})
	for _, err := range []api.Errno{api.OK, api.ErrCut, api.ErrForm, api.ErrPad, api.ErrRange, api.ErrClass, api.ErrTag} {
		if told[err] < 100 {
			t.Errorf("%d was told %d times", err, told[err])
		}
	}
}

// P12.3

func TestWhatIsPutIsGot(t *testing.T) {
	for _, s := range edges() {
		for _, style := range bothStyles {
			for turn, n := range lengths(s) {
				text := filled(s.Class, n, 7*turn)
				b, err := Put(style, s, text)
				if err != api.OK {
					t.Errorf("Put(%d, %v, %s): %d", style, s, short(text), err)
				}
				checkGet(t, style, s, b, 0, text, len(b))
			}
		}
	}
}

// TestWhatIsGotIsPutAsItWas: so no value has two spellings.
func TestWhatIsGotIsPutAsItWas(t *testing.T) {
	got := map[[3]int]int{}
	eachShort(func(r *reader, b string) {
		text, next, err := Get(r.style, r.s, b, 0)
		if err != api.OK {
			return
		}
		got[[3]int{r.style, r.s.Class, r.s.Form}]++
		checkPut(t, r.style, r.s, text, b[:next])
	})
	// Each style with each class and form, but for CTlv of FFixed, which may not be.
	if len(got) != 2*(6*3-1) {
		t.Errorf("fields of %d kinds were got", len(got))
	}
}

// TestWhatStandsAroundPlaysNoPart: a field's value, or its fault, is the same behind all bytes and ahead of all; but what is cut isn't, as more may follow.
func TestWhatStandsAroundPlaysNoPart(t *testing.T) {
	around := []string{"", "0", "9", "\x00", "\xff", "g", "12", "\x10\x99", "004", "\x00\x04", strings.Repeat("9", 40), strings.Repeat("\x00", 40), strings.Repeat("z", 40)}
	for _, x := range samples {
		for _, style := range bothStyles {
			right := bytesOf(style, x.s, x.text)
			for _, b := range []string{right, with(right, 0, '\xfe'), with(right, len(right)-1, '\xfe'), with(right, len(right)/2, 'g')} {
				text, next, err := Get(style, x.s, b, 0)
				if err == api.ErrCut {
					continue
				}
				for _, ahead := range around {
					for _, behind := range around {
						whole := ahead + b + behind
						if err != api.OK {
							checkGetWrong(t, style, x.s, whole, len(ahead), err)
							continue
						}
						checkGet(t, style, x.s, whole, len(ahead), text, len(ahead)+next)
					}
				}
			}
		}
	}
}

// TestFieldsOneBehindTheOther: fields that are put one behind the other are got so.
func TestFieldsOneBehindTheOther(t *testing.T) {
	for _, style := range bothStyles {
		all := ""
		for _, x := range samples {
			b, _ := Put(style, x.s, x.text)
			all += b
		}
		at := 0
		for _, x := range samples {
			end := at + len(bytesOf(style, x.s, x.text))
			checkGet(t, style, x.s, all, at, x.text, end)
			at = end
		}
		if at != len(all) {
			t.Errorf("style %d: the fields end at %d; want %d", style, at, len(all))
		}
	}
}

func TestNothingIsKept(t *testing.T) {
	pan, emv := of(api.CDigits, api.FTwo, 1, 19), of(api.CTlv, api.FThree, 1, 255)
	for range 3 {
		checkGet(t, api.SBinary, pan, "\x04\x41\x11", 0, "4111", 3)
		checkGetWrong(t, api.SBinary, pan, "\x03\x41\x11", 0, api.ErrPad)
		checkPut(t, api.SAscii, emv, "\x82\x01a", "003820161")
		checkPutWrong(t, api.SAscii, emv, "\x82\x02a", api.ErrTag)
		checkGet(t, api.SAscii, pan, "044111", 0, "4111", 6)
		checkGetWrong(t, api.SAscii, emv, "003820261", 0, api.ErrTag)
		checkPut(t, api.SBinary, pan, "4111", "\x04\x41\x11")
		checkPutWrong(t, 0, pan, "4111", api.ErrArg)
	}
}
