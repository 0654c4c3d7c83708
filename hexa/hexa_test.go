package hexa

import (
	"strings"
	"testing"
)

// spelling: the digits of sixteen by their worth, written apart from the program's own.
const spelling = "0123456789ABCDEF"

// wrongBytes: bytes that are no digits: small letters, the neighbours of 0 to 9 and A to F, and bytes of 80 and above.
const wrongBytes = "abcdef/:@G`gxXoO \n\t+-\x00\x1f\x7f\x80\xb0\xb9\xc1\xc6\xff"

func allBytes() string {
	all := make([]byte, 256)
	for i := range all {
		all[i] = byte(i)
	}
	return string(all)
}

// samples: texts of bytes.
func samples() []string {
	return []string{
		"", "\x00", "\x00\x00", "\x01", "\x10", "\x0a\xff", "\x1e\x00", "\x9f\x02", "\xff\xff\xff",
		"0", "0800", "card", "caf\u00e9", "\u0661", "\ufffd", "\xc3", "\x80\x81",
		allBytes(), strings.Repeat("\x5a", 5000),
	}
}

func checkPut(t *testing.T, s, want string) {
	t.Helper()
	if got := Put(s); got != want {
		t.Errorf("Put(%q): %q; want %q", s, got, want)
	}
}

func checkGet(t *testing.T, s, want string) {
	t.Helper()
	if b, at, ok := Get(s); b != want || at != 0 || !ok {
		t.Errorf("Get(%q): %q, %d, %v; want %q, 0, true", s, b, at, ok, want)
	}
}

func checkWrong(t *testing.T, s string, want int) {
	t.Helper()
	if b, at, ok := Get(s); b != "" || at != want || ok {
		t.Errorf("Get(%q): %q, %d, %v; want none, %d, false", s, b, at, ok, want)
	}
}

// P2.1

func TestDigitOfEachByte(t *testing.T) {
	for b := range 256 {
		worth := strings.IndexByte(spelling, byte(b))
		n, ok := Digit(byte(b))
		if worth < 0 && (n != 0 || ok) {
			t.Errorf("Digit(%#x): %d, %v; want 0, false", b, n, ok)
		}
		if worth >= 0 && (n != worth || !ok) {
			t.Errorf("Digit(%#x): %d, %v; want %d, true", b, n, ok, worth)
		}
	}
}

func TestPutOrdinary(t *testing.T) {
	checkPut(t, "", "")
	checkPut(t, "\x0a\xff", "0AFF")
	checkPut(t, "\x1e\x00", "1E00")
	checkPut(t, "\x9f\x02\x06", "9F0206")
	checkPut(t, "0800", "30383030")
	checkPut(t, "\u00e9", "C3A9")
	checkPut(t, strings.Repeat("\xa5", 5000), strings.Repeat("A5", 5000))
}

func TestPutOfEachByte(t *testing.T) {
	for high := range 16 {
		for low := range 16 {
			one := string([]byte{byte(16*high + low)})
			two := string([]byte{spelling[high], spelling[low]})
			checkPut(t, one, two)
			checkPut(t, "\x12"+one+"\xef", "12"+two+"EF")
		}
	}
}

func TestGetOrdinary(t *testing.T) {
	checkGet(t, "", "")
	checkGet(t, "00", "\x00")
	checkGet(t, "0AFF", "\x0a\xff")
	checkGet(t, "9FA0", "\x9f\xa0")
	checkGet(t, "0123456789ABCDEF", "\x01\x23\x45\x67\x89\xab\xcd\xef")
	checkGet(t, "FEDCBA9876543210", "\xfe\xdc\xba\x98\x76\x54\x32\x10")
	checkGet(t, strings.Repeat("A5", 5000), strings.Repeat("\xa5", 5000))
}

func TestGetOddCount(t *testing.T) {
	checkWrong(t, "0AF", 3)
	for _, d := range spelling {
		checkWrong(t, string(d), 1)
	}
	for _, length := range []int{1, 3, 5, 15, 17, 4999} {
		checkWrong(t, strings.Repeat("0", length), length)
		checkWrong(t, strings.Repeat("F", length), length)
	}
}

// TestGetWrongByteAtEachPlace: in texts of even and of odd length; of an odd one, too, the byte's place is told, not the length.
func TestGetWrongByteAtEachPlace(t *testing.T) {
	for length := 1; length <= 9; length++ {
		for at := range length {
			for i := range len(wrongBytes) {
				s := []byte("0A9F1B2C3"[:length])
				s[at] = wrongBytes[i]
				checkWrong(t, string(s), at)
			}
		}
	}
}

func TestGetFirstOfSeveralWrongBytes(t *testing.T) {
	checkWrong(t, "0a", 1)
	checkWrong(t, "9fA0", 1)
	checkWrong(t, "AG", 1)
	checkWrong(t, "0 ", 1)
	checkWrong(t, "0x0A", 1)
	checkWrong(t, "ff", 0)
	checkWrong(t, "g", 0)
	checkWrong(t, "00gg", 2)
	checkWrong(t, "0A0g0h", 3)
	checkWrong(t, "0A\x80\xff0", 2)
	checkWrong(t, "00\u06610", 2)
	checkWrong(t, "00\uff21", 2)
	checkWrong(t, strings.Repeat("0", 5000)+"\x80", 5000)
	checkWrong(t, strings.Repeat("0", 4999)+"g", 4999)
}

func TestGetOfEachPairOfBytes(t *testing.T) {
	for a := range 256 {
		for b := range 256 {
			s := string([]byte{byte(a), byte(b)})
			high := strings.IndexByte(spelling, byte(a))
			low := strings.IndexByte(spelling, byte(b))
			switch {
			case high < 0:
				checkWrong(t, s, 0)
			case low < 0:
				checkWrong(t, s, 1)
			default:
				checkGet(t, s, string([]byte{byte(16*high + low)}))
			}
		}
	}
}

// P2.2

func TestWhatIsPutIsGot(t *testing.T) {
	for _, s := range samples() {
		checkGet(t, Put(s), s)
	}
	for a := range 256 {
		for b := range 256 {
			s := string([]byte{byte(a), byte(b)})
			checkGet(t, Put(s), s)
		}
	}
}

func TestWhatIsGotIsPutAsItWas(t *testing.T) {
	texts := []string{"", "00", "0AFF", "9F02", "0123456789ABCDEF", strings.Repeat("0F", 5000)}
	for _, s := range texts {
		b, _, ok := Get(s)
		if !ok || Put(b) != s {
			t.Errorf("Get(%q): %q, %v; put again %q", s, b, ok, Put(b))
		}
	}
}

// TestOneSpelling: of all texts of two bytes just 256 are got, each as another byte.
func TestOneSpelling(t *testing.T) {
	spelt := map[string]string{}
	for a := range 256 {
		for b := range 256 {
			s := string([]byte{byte(a), byte(b)})
			one, _, ok := Get(s)
			if !ok {
				continue
			}
			if other, twice := spelt[one]; twice {
				t.Errorf("%q is spelt %q and %q", one, other, s)
			}
			if Put(one) != s {
				t.Errorf("Put(%q): %q; got from %q", one, Put(one), s)
			}
			spelt[one] = s
		}
	}
	if len(spelt) != 256 {
		t.Errorf("%d bytes are spelt", len(spelt))
	}
}
