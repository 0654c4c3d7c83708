package tag

import (
	"math"
	"strings"
	"testing"

	"groat/api"
)

// firsts: the first bytes of tags of two bytes, as the chapter's words give them.
const firsts = "\x1f\x5f\x9f\xdf"

// behinds: what may stand behind a tag, and is left alone.
func behinds() []string {
	return []string{"", "\x00", "\x01", "\x1f", "\x20", "\x7f", "\x80", "\xff", "\x9f\x02", "x", strings.Repeat("\x9f", 300)}
}

// aheads: what may stand ahead of a tag, and is left alone.
func aheads() []string {
	return []string{"", "\x00", "\x1f", "\x5a", "\x9f", "\x9f\x02", "\xff\xff", "abc", strings.Repeat("\x9f", 300)}
}

// tags: each tag's bytes by its number, by another way than the program's: the rows of sixteen first bytes are written out.
func tags() map[int]string {
	all := map[int]string{}
	for _, high := range []int{0x00, 0x10, 0x40, 0x50, 0x80, 0x90, 0xC0, 0xD0} {
		for low := range 16 {
			switch n := high + low; n {
			case 0x00, 0x1F, 0x5F, 0x9F, 0xDF:
			default:
				all[n] = string([]byte{byte(n)})
			}
		}
	}
	for i := range len(firsts) {
		for second := 1; second < 128; second++ {
			all[int(firsts[i])*256+second] = firsts[i:i+1] + string([]byte{byte(second)})
		}
	}
	return all
}

// wrongNumbers: numbers below 0, of more than two bytes, and such as look like a tag in their lowest bytes.
func wrongNumbers() []int {
	return []int{
		-1, -2, -0x1F, -0x5A, -0x61, -0x100, -0x9F02, -0xA6, -0x60FE, -1 << 16, -1<<16 + 0x5A, -1<<16 + 0x9F02, -1 << 32, -1<<32 + 0x5A,
		0x10000, 0x10001, 0x1005A, 0x15A00, 0x19F02, 0x1F0101, 0x9F0201, 0x5A0000, 0x9F0200, 0xFFFFFF, 1 << 24, 1<<24 + 0x5A, 1<<24 + 0x9F02,
		1 << 31, 1<<31 + 0x5A, 1 << 32, 1<<32 + 0x5A, 1<<32 + 0x9F02, 1<<48 + 0x5A, 1<<62 + 0x9F02, math.MaxInt, math.MinInt, math.MinInt + 0x5A, math.MinInt + 0x9F02,
	}
}

// wrongFirsts: the bytes that begin no tag: 00, and all with the bit 20.
func wrongFirsts() []byte {
	wrong := []byte{0x00}
	for _, high := range []int{0x20, 0x30, 0x60, 0x70, 0xA0, 0xB0, 0xE0, 0xF0} {
		for low := range 16 {
			wrong = append(wrong, byte(high+low))
		}
	}
	return wrong
}

func checkTag(t *testing.T, n int, want string) {
	t.Helper()
	if !Right(n) {
		t.Errorf("Right(%X): false; want true", n)
	}
	if got, ok := Put(n); got != want || !ok {
		t.Errorf("Put(%X): % X, %v; want % X, true", n, got, ok, want)
	}
}

func checkNoTag(t *testing.T, n int) {
	t.Helper()
	if Right(n) {
		t.Errorf("Right(%X): true; want false", n)
	}
	if got, ok := Put(n); got != "" || ok {
		t.Errorf("Put(%X): % X, %v; want none, false", n, got, ok)
	}
}

func checkGet(t *testing.T, b string, at, want, behind int) {
	t.Helper()
	if got, next, err := Get(b, at); got != want || next != behind || err != api.OK {
		t.Errorf("Get(% X, %d): %X, %d, %d; want %X, %d, 0", b, at, got, next, err, want, behind)
	}
}

func checkGetWrong(t *testing.T, b string, at int, want api.Errno) {
	t.Helper()
	if got, next, err := Get(b, at); got != 0 || next != 0 || err != want {
		t.Errorf("Get(% X, %d): %X, %d, %d; want 0, 0, %d", b, at, got, next, err, want)
	}
}

// P8.1

func TestTagsOfTheExamples(t *testing.T) {
	checkTag(t, 0x9F02, "\x9f\x02")
	checkTag(t, 0x5A, "\x5a")
	checkGet(t, "\x9f\x02", 0, 0x9F02, 2)
	checkGet(t, "\x5a", 0, 0x5A, 1)
	checkGetWrong(t, "\x70", 0, api.ErrTag)
	checkGetWrong(t, "\xe1", 0, api.ErrTag)
	checkGetWrong(t, "\x9f\x80", 0, api.ErrTag)
	checkNoTag(t, 0x70)
	checkNoTag(t, 0xE1)
	checkNoTag(t, 0x9F80)
}

func TestTagsOfOneByteAtTheEdges(t *testing.T) {
	for _, n := range []int{0x01, 0x02, 0x0F, 0x10, 0x1E, 0x40, 0x5A, 0x5E, 0x80, 0x82, 0x9E, 0xC0, 0xDE} {
		checkTag(t, n, string([]byte{byte(n)}))
	}
	for _, n := range []int{0x00, 0x1F, 0x20, 0x21, 0x3E, 0x3F, 0x5F, 0x60, 0x61, 0x6F, 0x70, 0x77, 0x7F, 0x9F, 0xA0, 0xBF, 0xDF, 0xE0, 0xE1, 0xFE, 0xFF} {
		checkNoTag(t, n)
	}
}

func TestTagsOfTwoBytesAtTheEdges(t *testing.T) {
	for i := range len(firsts) {
		first := int(firsts[i]) << 8
		checkTag(t, first|0x01, firsts[i:i+1]+"\x01")
		checkTag(t, first|0x1F, firsts[i:i+1]+"\x1f")
		checkTag(t, first|0x20, firsts[i:i+1]+"\x20")
		checkTag(t, first|0x7F, firsts[i:i+1]+"\x7f")
		for _, second := range []int{0x00, 0x80, 0x81, 0x82, 0x9F, 0xFF} {
			checkNoTag(t, first|second)
		}
	}
}

func TestNumbersWithAWrongFirstByte(t *testing.T) {
	for _, second := range []int{0x00, 0x01, 0x02, 0x1F, 0x5A, 0x7F, 0x80, 0xFF} {
		// A tag by itself.
		for _, first := range []int{0x01, 0x1E, 0x40, 0x5A, 0x82, 0xDE} {
			checkNoTag(t, first<<8|second)
		}
		// The bit 20, with and without the lowest five.
		for _, first := range []int{0x20, 0x3F, 0x61, 0x70, 0x7F, 0xA5, 0xBF, 0xE1, 0xFF} {
			checkNoTag(t, first<<8|second)
		}
	}
}

// With 00 ahead a number has one byte, so that it is told by that one alone.
func TestNumbersWithNoughtAsFirstByte(t *testing.T) {
	checkTag(t, 0x0001, "\x01")
	checkTag(t, 0x005A, "\x5a")
	checkNoTag(t, 0x0000)
	checkNoTag(t, 0x001F)
	checkNoTag(t, 0x0020)
	checkNoTag(t, 0x007F)
}

func TestEachNumber(t *testing.T) {
	all := tags()
	if len(all) != 123+4*127 {
		t.Fatalf("%d tags", len(all))
	}
	for n := -0x20000; n <= 0x20000; n++ {
		if want, ok := all[n]; ok {
			checkTag(t, n, want)
		} else {
			checkNoTag(t, n)
		}
	}
}

func TestWrongNumbers(t *testing.T) {
	for _, n := range wrongNumbers() {
		checkNoTag(t, n)
	}
}

// All that a number's higher bytes may be, beside the lowest bytes of tags.
func TestNumbersOfMoreBytes(t *testing.T) {
	for _, low := range []int{0x01, 0x5A, 0x9F02, 0x1F01, 0xDF7F} {
		for bit := 16; bit < 63; bit++ {
			checkNoTag(t, 1<<bit|low)
			checkNoTag(t, -1<<bit|low)
		}
	}
}

func TestGetOrdinary(t *testing.T) {
	b := "\x5a\x9f\x02\x82\x5f\x2a\xdf\x7f\x01"
	checkGet(t, b, 0, 0x5A, 1)
	checkGet(t, b, 1, 0x9F02, 3)
	checkGet(t, b, 2, 0x02, 3)
	checkGet(t, b, 3, 0x82, 4)
	checkGet(t, b, 4, 0x5F2A, 6)
	checkGetWrong(t, b, 5, api.ErrTag)
	checkGet(t, b, 6, 0xDF7F, 8)
	checkGetWrong(t, b, 7, api.ErrTag)
	checkGet(t, b, 8, 0x01, 9)
	checkGetWrong(t, b, 9, api.ErrCut)
	checkGetWrong(t, b, 10, api.ErrArg)
}

func TestGetAtEachPlace(t *testing.T) {
	for n, bytes := range tags() {
		for _, ahead := range aheads() {
			for _, behind := range behinds() {
				checkGet(t, ahead+bytes+behind, len(ahead), n, len(ahead)+len(bytes))
			}
		}
	}
}

// Each pair of bytes, read by the written-out list alone.
func TestGetEachPair(t *testing.T) {
	byBytes := map[string]int{}
	for n, bytes := range tags() {
		byBytes[bytes] = n
	}
	for first := range 256 {
		one := string([]byte{byte(first)})
		if n, ok := byBytes[one]; ok {
			checkGet(t, one, 0, n, 1)
		} else if strings.Contains(firsts, one) {
			checkGetWrong(t, one, 0, api.ErrCut)
		} else {
			checkGetWrong(t, one, 0, api.ErrTag)
		}
		for second := range 256 {
			two := one + string([]byte{byte(second)})
			if n, ok := byBytes[one]; ok {
				checkGet(t, two, 0, n, 1)
			} else if n, ok := byBytes[two]; ok {
				checkGet(t, two, 0, n, 2)
			} else {
				checkGetWrong(t, two, 0, api.ErrTag)
			}
		}
	}
}

func TestGetWrongPlaces(t *testing.T) {
	for _, b := range []string{"", "\x5a", "\x9f\x02", "\x9f", "\x9f\x80", "\x00", "\x70", "\x5a\x9f\x02\x00"} {
		for _, at := range []int{-1, -2, -len(b), len(b) + 1, len(b) + 2, 1 << 16, 1 << 32, 1<<32 + 1, math.MaxInt, math.MaxInt - 1, math.MinInt, math.MinInt + 1} {
			if at < 0 || at > len(b) {
				checkGetWrong(t, b, at, api.ErrArg)
			}
		}
	}
}

func TestGetCutAheadOfTheFirstByte(t *testing.T) {
	for _, ahead := range aheads() {
		checkGetWrong(t, ahead, len(ahead), api.ErrCut)
	}
}

func TestGetCutBehindTheFirstByte(t *testing.T) {
	for _, ahead := range aheads() {
		for i := range len(firsts) {
			checkGetWrong(t, ahead+firsts[i:i+1], len(ahead), api.ErrCut)
		}
	}
}

// A first byte that begins no tag is told by itself: nothing ahead of it or behind it mends that.
func TestGetWrongFirsts(t *testing.T) {
	for _, first := range wrongFirsts() {
		for _, ahead := range aheads() {
			for _, behind := range behinds() {
				checkGetWrong(t, ahead+string([]byte{first})+behind, len(ahead), api.ErrTag)
			}
		}
	}
}

func TestGetWrongSeconds(t *testing.T) {
	for i := range len(firsts) {
		for second := range 256 {
			if second >= 0x01 && second <= 0x7F {
				continue
			}
			for _, ahead := range aheads() {
				for _, behind := range behinds() {
					checkGetWrong(t, ahead+firsts[i:i+1]+string([]byte{byte(second)})+behind, len(ahead), api.ErrTag)
				}
			}
		}
	}
}

func TestGetOrderOfErrors(t *testing.T) {
	// A place that isn't one comes ahead of a cut and of a wrong byte.
	checkGetWrong(t, "", -1, api.ErrArg)
	checkGetWrong(t, "", 1, api.ErrArg)
	checkGetWrong(t, "\x00", -1, api.ErrArg)
	checkGetWrong(t, "\x9f", 2, api.ErrArg)
	// No byte at all is a cut, whatever stands ahead.
	checkGetWrong(t, "", 0, api.ErrCut)
	checkGetWrong(t, "\x00", 1, api.ErrCut)
	checkGetWrong(t, "\x70", 1, api.ErrCut)
	// A first byte that begins no tag comes ahead of the missing second one, even if its lowest five bits ask for that.
	for _, b := range []string{"\x00", "\x3f", "\x7f", "\xbf", "\xff"} {
		checkGetWrong(t, b, 0, api.ErrTag)
	}
	// The missing second byte comes ahead of a wrong one that stands nowhere.
	checkGetWrong(t, "\x9f", 0, api.ErrCut)
	checkGetWrong(t, "\x9f\x00", 0, api.ErrTag)
	checkGetWrong(t, "\x00\x9f", 1, api.ErrCut)
}

// P8.2

func TestPutThenGet(t *testing.T) {
	for n := -0x200; n <= 0x10200; n++ {
		b, ok := Put(n)
		if !ok {
			continue
		}
		for _, ahead := range aheads() {
			for _, behind := range behinds() {
				checkGet(t, ahead+b+behind, len(ahead), n, len(ahead)+len(b))
			}
		}
	}
}

func TestGetThenPut(t *testing.T) {
	for first := range 256 {
		for second := range 256 {
			b := "\x9f" + string([]byte{byte(first), byte(second)}) + "\x02"
			n, next, err := Get(b, 1)
			if err != api.OK {
				continue
			}
			if !Right(n) {
				t.Errorf("Get(% X, 1): %X, which is no tag", b, n)
			}
			if again, ok := Put(n); !ok || again != b[1:next] {
				t.Errorf("Put(%X): % X, %v; want % X, true", n, again, ok, b[1:next])
			}
		}
	}
}

func TestNoTagBeginsAnother(t *testing.T) {
	all := map[string]int{}
	for n := range 0x10000 {
		if b, ok := Put(n); ok {
			if other, twice := all[b]; twice {
				t.Errorf("%X and %X: both % X", other, n, b)
			}
			all[b] = n
		}
	}
	for b, n := range all {
		for size := range len(b) {
			if other, ok := all[b[:size]]; ok {
				t.Errorf("%X: its bytes begin those of %X", other, n)
			}
		}
	}
	if len(all) != 123+4*127 {
		t.Errorf("%d tags", len(all))
	}
}

// A row of tags is parted in one way alone.
func TestRowOfTags(t *testing.T) {
	var row strings.Builder
	var want []int
	for n := range 0x10000 {
		if b, ok := Put(n); ok {
			row.WriteString(b)
			want = append(want, n)
		}
	}
	b, at := row.String(), 0
	for _, n := range want {
		got, next, err := Get(b, at)
		if got != n || err != api.OK {
			t.Fatalf("at %d: %X, %d; want %X, 0", at, got, err, n)
		}
		at = next
	}
	if at != len(b) {
		t.Errorf("%d; want %d", at, len(b))
	}
}
