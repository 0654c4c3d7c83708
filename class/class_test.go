package class

import (
	"math"
	"strings"
	"testing"

	"groat/api"
)

const (
	figures = "0123456789"
	abc     = "ABCDEFGHIJKLMNOPQRSTUVWXYZabcdefghijklmnopqrstuvwxyz"
	marks   = " !\"#$%&'()*+,-./:;<=>?@[\\]^_`{|}~"
)

// known: the classes' numbers.
func known() []int {
	return []int{api.CDigits, api.CLetters, api.CAlnum, api.CPrint, api.CBytes, api.CTlv}
}

// unknown: numbers that are no class's.
func unknown() []int {
	return []int{0, -1, -2, -6, api.Classes + 1, api.Classes + 2, 255, 256, 257, 1 << 32, 1<<32 + 1, math.MaxInt, math.MinInt, math.MinInt + 1}
}

// everyByte: all bytes, the least first.
func everyByte() string {
	out := make([]byte, 256)
	for i := range out {
		out[i] = byte(i)
	}
	return string(out)
}

// bytesOf: a class's bytes, written out apart from the program's own way.
func bytesOf(class int) string {
	switch class {
	case api.CDigits:
		return figures
	case api.CLetters:
		return abc
	case api.CAlnum:
		return figures + abc
	case api.CPrint:
		return figures + abc + marks
	case api.CBytes, api.CTlv:
		return everyByte()
	}
	return ""
}

// has: is the byte in the text?
func has(s string, b byte) bool { return strings.IndexByte(s, b) >= 0 }

func checkIs(t *testing.T, class int, b byte, want bool) {
	t.Helper()
	if got := Is(class, b); got != want {
		t.Errorf("Is(%d, %02X): %v; want %v", class, b, got, want)
	}
}

func checkFirst(t *testing.T, class int, s string, want int) {
	t.Helper()
	if got := First(class, s); got != want {
		t.Errorf("First(%d, %q): %d; want %d", class, s, got, want)
	}
}

func checkWider(t *testing.T, a, b int, want bool) {
	t.Helper()
	if got := Wider(a, b); got != want {
		t.Errorf("Wider(%d, %d): %v; want %v", a, b, got, want)
	}
}

// The numbers, by iota

func TestNumbersAreThoseOfApi(t *testing.T) {
	own := []int{digits, letters, alnum, printable, anyBytes, tagged}
	for i, class := range known() {
		if own[i] != class || class != i+1 {
			t.Errorf("class %d of the list: own number %d, api's %d", i, own[i], class)
		}
	}
	if classes != api.Classes || len(known()) != api.Classes {
		t.Errorf("%d classes; want %d", classes, api.Classes)
	}
}

// P4.1: Known, Is and First

func TestKnown(t *testing.T) {
	for _, class := range known() {
		if !Known(class) {
			t.Errorf("Known(%d): false", class)
		}
	}
	for _, class := range unknown() {
		if Known(class) {
			t.Errorf("Known(%d): true", class)
		}
	}
}

func TestIsOfAllBytes(t *testing.T) {
	for _, class := range known() {
		of := bytesOf(class)
		for b := range 256 {
			checkIs(t, class, byte(b), has(of, byte(b)))
		}
	}
}

func TestIsAtTheRangesEnds(t *testing.T) {
	for _, x := range []struct {
		class   int
		in, out string
	}{
		{api.CDigits, "09", "/:AZaz \x00\x7f\x80\xff"},
		{api.CLetters, "AZaz", "@[`{09 \x00\x7f\x80\xff"},
		{api.CAlnum, "09AZaz", "/:@[`{ ~\x00\x7f\x80\xff"},
		{api.CPrint, " ~!}09AZaz/:@[`{", "\x00\x1f\x7f\x80\xa0\xff"},
		{api.CBytes, "\x00\x1f \x7e\x7f\x80\xff09AZaz", ""},
		{api.CTlv, "\x00\x1f \x7e\x7f\x80\xff09AZaz", ""},
	} {
		for i := range len(x.in) {
			checkIs(t, x.class, x.in[i], true)
		}
		for i := range len(x.out) {
			checkIs(t, x.class, x.out[i], false)
		}
	}
}

// A letter that isn't plain, or a digit of another script, is bytes above 7F: none of them is of a class but those of all bytes.
func TestBytesAbove7F(t *testing.T) {
	for b := 0x80; b <= 0xff; b++ {
		for _, class := range known() {
			checkIs(t, class, byte(b), class == api.CBytes || class == api.CTlv)
		}
	}
	checkFirst(t, api.CLetters, "a\u00e9", 1)
	checkFirst(t, api.CDigits, "\u0663", 0)
	checkFirst(t, api.CPrint, "ab\u00a0", 2)
	checkFirst(t, api.CBytes, "a\u00e9\xff\xfe", -1)
}

func TestIsOfUnknownClasses(t *testing.T) {
	for _, class := range unknown() {
		for b := range 256 {
			checkIs(t, class, byte(b), false)
		}
	}
}

func TestFirstOrdinary(t *testing.T) {
	checkFirst(t, api.CAlnum, "a1 b", 2)
	checkFirst(t, api.CDigits, "000001", -1)
	checkFirst(t, api.CDigits, "00a001", 2)
	checkFirst(t, api.CLetters, "Groat", -1)
	checkFirst(t, api.CLetters, "Groat8583", 5)
	checkFirst(t, api.CPrint, "Groat 8583!", -1)
	checkFirst(t, api.CPrint, "Groat\n8583", 5)
}

func TestFirstOfWholeClasses(t *testing.T) {
	for _, class := range known() {
		checkFirst(t, class, bytesOf(class), -1)
		checkFirst(t, class, strings.Repeat(bytesOf(class), 300), -1)
	}
}

func TestFirstOfEmptyTexts(t *testing.T) {
	for _, class := range append(known(), unknown()...) {
		checkFirst(t, class, "", -1)
	}
}

func TestFirstAtEachPlace(t *testing.T) {
	for _, x := range []struct {
		class int
		good  string
		wrong byte
	}{{api.CDigits, "0123456789", 'A'}, {api.CLetters, "AZazMm", '0'}, {api.CAlnum, "A0z9Za", '_'}, {api.CPrint, " ~a0A!", 0x7f}} {
		for at := range len(x.good) {
			s := []byte(x.good)
			s[at] = x.wrong
			checkFirst(t, x.class, string(s), at)
			// Whatever is wrong behind it, it stays the first.
			for i := at + 1; i < len(s); i++ {
				s[i] = x.wrong
				checkFirst(t, x.class, string(s), at)
			}
		}
		checkFirst(t, x.class, x.good+string(x.wrong), len(x.good))
		checkFirst(t, x.class, string(x.wrong)+x.good, 0)
	}
}

func TestFirstIsByIs(t *testing.T) {
	for _, class := range append(known(), unknown()...) {
		for b := range 256 {
			want := -1
			if !Is(class, byte(b)) {
				want = 0
			}
			checkFirst(t, class, string([]byte{byte(b)}), want)
		}
	}
}

func TestFirstOfUnknownClasses(t *testing.T) {
	for _, class := range unknown() {
		checkFirst(t, class, "a", 0)
		checkFirst(t, class, "0123", 0)
		checkFirst(t, class, "\xff\x00", 0)
	}
}

// P4.2: Wider

func TestWiderOfAllPairs(t *testing.T) {
	rows := []string{ // of a by row, of b by column
		"100000",
		"010000",
		"111000",
		"111100",
		"111111",
		"111111",
	}
	for i, a := range known() {
		for k, b := range known() {
			checkWider(t, a, b, rows[i][k] == '1')
		}
	}
}

func TestWiderIsByBytes(t *testing.T) {
	for _, a := range known() {
		for _, b := range known() {
			want := true
			for i := range 256 {
				want = want && (!has(bytesOf(b), byte(i)) || has(bytesOf(a), byte(i)))
			}
			checkWider(t, a, b, want)
		}
	}
}

func TestWiderOfUnknownClasses(t *testing.T) {
	for _, a := range unknown() {
		for _, b := range append(known(), unknown()...) {
			checkWider(t, a, b, false)
			checkWider(t, b, a, false)
		}
	}
}

func TestWhatIsAllOfTheNarrowerIsAllOfTheWider(t *testing.T) {
	for _, a := range known() {
		for _, b := range known() {
			got := First(a, bytesOf(b)) == -1
			if Wider(a, b) != got {
				t.Errorf("Wider(%d, %d): %v, but the bytes say %v", a, b, !got, got)
			}
		}
	}
}
