package tlv

import (
	"math"
	"slices"
	"strings"
	"testing"

	"groat/api"
)

// list: tags and values, by turns.
func list(tagsAndValues ...any) []api.Tlv {
	var l []api.Tlv
	for i := 0; i < len(tagsAndValues); i += 2 {
		l = append(l, api.Tlv{Tag: tagsAndValues[i].(int), Value: tagsAndValues[i+1].(string)})
	}
	return l
}

func fill(n int) string { return strings.Repeat("v", n) }

// isTag: by another way than the program's.
func isTag(n int) bool {
	ofOne := func(b int) bool { return b > 0 && b < 256 && b/32%2 == 0 }
	if n < 256 {
		return ofOne(n) && n%32 != 31
	}
	first, second := n/256, n%256
	return ofOne(first) && first%32 == 31 && second >= 1 && second <= 127
}

// allTags: each tag that there is, by rising numbers.
func allTags() []int {
	var all []int
	for n := range 0x10000 {
		if isTag(n) {
			all = append(all, n)
		}
	}
	return all
}

// bytesOf: the bytes of one, by another way than the program's.
func bytesOf(x api.Tlv) string {
	var out []byte
	if x.Tag > 255 {
		out = append(out, byte(x.Tag/256))
	}
	out = append(out, byte(x.Tag%256))
	n := len(x.Value)
	switch {
	case n > 255:
		out = append(out, 0x82, byte(n/256), byte(n%256))
	case n > 127:
		out = append(out, 0x81, byte(n))
	default:
		out = append(out, byte(n))
	}
	return string(out) + x.Value
}

func bytesOfAll(l []api.Tlv) string {
	b := ""
	for _, x := range l {
		b += bytesOf(x)
	}
	return b
}

// short: so many bytes as a message of a test may show.
func short(b string) string { return b[:min(len(b), 60)] }

func checkRight(t *testing.T, want string, l ...api.Tlv) {
	t.Helper()
	was := slices.Clone(l)
	if err, i := Check(l...); err != api.OK || i != 0 {
		t.Errorf("Check of %d: %d, %d; want 0, 0", len(l), err, i)
	}
	if got, err := Put(l...); got != want || err != api.OK {
		t.Errorf("Put of %d: % X, %d; want % X, 0", len(l), short(got), err, short(want))
	}
	if !slices.Equal(l, was) {
		t.Errorf("a list of %d was changed", len(l))
	}
}

func checkWrong(t *testing.T, want api.Errno, place int, l ...api.Tlv) {
	t.Helper()
	was := slices.Clone(l)
	if err, i := Check(l...); err != want || i != place {
		t.Errorf("Check of %d: %d, %d; want %d, %d", len(l), err, i, want, place)
	}
	if got, err := Put(l...); got != "" || err != want {
		t.Errorf("Put of %d: % X, %d; want none, %d", len(l), short(got), err, want)
	}
	if !slices.Equal(l, was) {
		t.Errorf("a list of %d was changed", len(l))
	}
}

func checkGet(t *testing.T, b string, want ...api.Tlv) {
	t.Helper()
	if got, err, at := Get(b); !slices.Equal(got, want) || err != api.OK || at != 0 {
		t.Errorf("Get(% X): %d, %d, %d; want %d, 0, 0", short(b), len(got), err, at, len(want))
	}
}

func checkGetWrong(t *testing.T, b string, want api.Errno, place int) {
	t.Helper()
	if got, err, at := Get(b); len(got) != 0 || err != want || at != place {
		t.Errorf("Get(% X): %d, %d, %d; want 0, %d, %d", short(b), len(got), err, at, want, place)
	}
}

func checkFind(t *testing.T, l []api.Tlv, tag int, want string) {
	t.Helper()
	if got, ok := Find(l, tag); got != want || !ok {
		t.Errorf("Find(%X): % X, %v; want % X, true", tag, short(got), ok, short(want))
	}
}

func checkFindNone(t *testing.T, l []api.Tlv, tag int) {
	t.Helper()
	if got, ok := Find(l, tag); got != "" || ok {
		t.Errorf("Find(%X): % X, %v; want none, false", tag, short(got), ok)
	}
}

// aheads: bytes of whole ones, none of whose tags is 82, 9F36 or 5F2A.
func aheads() []string {
	return []string{"", "\x5a\x00", "\x9f\x02\x02\x01\x00", "\x84\x03\x82\x9f\x36", "\x5a\x01\x41\x9f\x02\x00\x95\x05\x00\x00\x00\x00\x00", "\x9a\x81\x80" + fill(0x80), "\x9f\x10\x82\x01\x00" + fill(0x100)}
}

// wrongTags: numbers that are no tag, such among them as look like one in their lowest bytes.
func wrongTags() []int {
	return []int{
		0, 0x1F, 0x20, 0x3F, 0x5F, 0x70, 0x77, 0x9F, 0xA5, 0xDF, 0xE1, 0xFF, 0x100, 0x182, 0x1F00, 0x1F80, 0x5A82, 0x7F01, 0x8282, 0x9F00, 0x9F80, 0x9FFF, 0xBF0C, 0xFF01, 0xFFFF,
		-1, -0x82, -0x9F02, 0x10000, 0x10082, 0x19F02, 1<<32 + 0x82, 1<<32 + 0x9F02, -1<<32 + 0x82, -1<<16 + 0x9F02, math.MaxInt, math.MinInt, math.MinInt + 0x82,
	}
}

// P10.1

func TestListsOfTheExamples(t *testing.T) {
	checkRight(t, "\x9f\x02\x02\x01\x00\x5a\x00", list(0x9F02, "\x01\x00", 0x5A, "")...)
	checkGet(t, "\x9f\x02\x02\x01\x00\x5a\x00", list(0x9F02, "\x01\x00", 0x5A, "")...)
	checkGetWrong(t, "\x5a\x01\x41\x5a\x00", api.ErrTwice, 3)
}

func TestPutOrdinary(t *testing.T) {
	checkRight(t, "")
	checkRight(t, "", []api.Tlv{}...)
	checkRight(t, "\x82\x00", list(0x82, "")...)
	checkRight(t, "\x82\x02\x58\x00", list(0x82, "\x58\x00")...)
	checkRight(t, "\x9f\x36\x02\x00\x1b", list(0x9F36, "\x00\x1b")...)
	checkRight(t, "\x82\x02\x58\x00\x9f\x36\x02\x00\x1b", list(0x82, "\x58\x00", 0x9F36, "\x00\x1b")...)
	checkRight(t, "\x9f\x36\x02\x00\x1b\x82\x02\x58\x00", list(0x9F36, "\x00\x1b", 0x82, "\x58\x00")...)
	checkRight(t, "\x01\x03abc\x5f\x2a\x00\x9f\x7f\x01\x9f\xde\x01\x00", list(0x01, "abc", 0x5F2A, "", 0x9F7F, "\x9f", 0xDE, "\x00")...)
}

// TestPutValuesAsTheyAre: no byte of a value is looked at, not even such as tags and lengths are made of.
func TestPutValuesAsTheyAre(t *testing.T) {
	for first := range 256 {
		for _, value := range []string{string([]byte{byte(first)}), string([]byte{byte(first), 0x82}), string([]byte{0x82, 0, byte(first)})} {
			l := list(0x82, value, 0x9F36, value)
			checkRight(t, bytesOfAll(l), l...)
			checkGet(t, bytesOfAll(l), l...)
		}
	}
}

// lengths: those at which the count of a length's bytes changes, their neighbours, and the greatest one.
func lengths() []int {
	return []int{0, 1, 2, 0x7E, 0x7F, 0x80, 0x81, 0xFE, 0xFF, 0x100, 0x101, 0x1FF, 0x8000, 65534, 65535}
}

func TestPutLengths(t *testing.T) {
	heads := map[int]string{0: "\x00", 1: "\x01", 0x7F: "\x7f", 0x80: "\x81\x80", 0xFF: "\x81\xff", 0x100: "\x82\x01\x00", 65535: "\x82\xff\xff"}
	for n, head := range heads {
		checkRight(t, "\x82"+head+fill(n), list(0x82, fill(n))...)
		checkRight(t, "\x9f\x36"+head+fill(n), list(0x9F36, fill(n))...)
		checkRight(t, "\x84\x01a\x82"+head+fill(n)+"\x9f\x36\x00", list(0x84, "a", 0x82, fill(n), 0x9F36, "")...)
	}
	for _, n := range lengths() {
		for _, m := range lengths() {
			l := list(0x9F36, fill(n), 0x82, fill(m))
			checkRight(t, bytesOfAll(l), l...)
		}
	}
}

func TestEachTag(t *testing.T) {
	for n := -0x200; n <= 0x10200; n++ {
		x := api.Tlv{Tag: n, Value: "ab"}
		if isTag(n) {
			checkRight(t, bytesOf(x), x)
		} else {
			checkWrong(t, api.ErrTag, 0, x)
		}
	}
}

// each: a list of five, the one at the place being x.
func each(place int, x api.Tlv) []api.Tlv {
	l := list(0x9F02, "\x01\x00", 0x5A, "", 0x84, fill(0x80), 0x9F10, fill(0x100), 0x95, "abcde")
	l[place] = x
	return l
}

func TestWrongTags(t *testing.T) {
	for _, tag := range wrongTags() {
		checkWrong(t, api.ErrTag, 0, list(tag, "")...)
		for place := range 5 {
			checkWrong(t, api.ErrTag, place, each(place, api.Tlv{Tag: tag, Value: "x"})...)
		}
	}
}

func TestTooLongValues(t *testing.T) {
	for _, n := range []int{65536, 65537, 65536 + 128, 1 << 17, 1<<20 + 5} {
		for _, tag := range []int{0x82, 0x9F36} {
			checkWrong(t, api.ErrRange, 0, list(tag, fill(n))...)
			for place := range 5 {
				checkWrong(t, api.ErrRange, place, each(place, api.Tlv{Tag: tag, Value: fill(n)})...)
			}
		}
	}
	for place := range 5 {
		l := each(place, api.Tlv{Tag: 0x82, Value: fill(65535)})
		checkRight(t, bytesOfAll(l), l...)
	}
}

// TestTagsThatStandAhead: the second one is told, wherever the first one stands, and whatever both values are.
func TestTagsThatStandAhead(t *testing.T) {
	checkWrong(t, api.ErrTwice, 1, list(0x82, "a", 0x82, "a")...)
	checkWrong(t, api.ErrTwice, 1, list(0x82, "a", 0x82, "b")...)
	checkWrong(t, api.ErrTwice, 1, list(0x82, "", 0x82, "")...)
	checkWrong(t, api.ErrTwice, 1, list(0x9F36, "", 0x9F36, "a")...)
	checkWrong(t, api.ErrTwice, 2, list(0x82, "a", 0x9F36, "a", 0x82, "a", 0x9F36, "a")...)
	checkWrong(t, api.ErrTwice, 1, list(0x82, "a", 0x82, "a", 0x82, "a")...)
	for second := 1; second < 5; second++ {
		for first := range second {
			for _, tag := range []int{0x82, 0x9F36} {
				l := each(first, api.Tlv{Tag: tag, Value: "a"})
				l[second] = api.Tlv{Tag: tag, Value: "b"}
				checkWrong(t, api.ErrTwice, second, l...)
			}
		}
	}
}

// TestLikeTags: tags that share a byte are others.
func TestLikeTags(t *testing.T) {
	for _, l := range [][]api.Tlv{
		list(0x02, "a", 0x9F02, "a", 0x5F02, "a", 0x1F02, "a", 0xDF02, "a"),
		list(0x9F02, "a", 0x9F03, "a", 0x9F01, "a", 0x9F7F, "a"),
		list(0x9F5A, "a", 0x5A, "a"),
		list(0x82, "a", 0x02, "a", 0x42, "a", 0xC2, "a"),
	} {
		checkRight(t, bytesOfAll(l), l...)
		checkGet(t, bytesOfAll(l), l...)
	}
}

func TestCheckOrderOfErrors(t *testing.T) {
	long := fill(65536)
	// In one: the tag, then the value, then the tags ahead.
	checkWrong(t, api.ErrTag, 0, list(0x70, long)...)
	checkWrong(t, api.ErrTag, 1, list(0x82, "", 0x70, long)...)
	checkWrong(t, api.ErrRange, 1, list(0x82, "", 0x82, long)...)
	// In different ones: the first.
	checkWrong(t, api.ErrTag, 0, list(0x70, "", 0x70, "")...)
	checkWrong(t, api.ErrTag, 0, list(0x70, "", 0x82, long)...)
	checkWrong(t, api.ErrTag, 1, list(0x82, "", 0x70, "", 0x82, "")...)
	checkWrong(t, api.ErrTag, 1, list(0x82, "", 0x70, "", 0x84, long)...)
	checkWrong(t, api.ErrRange, 0, list(0x82, long, 0x70, "")...)
	checkWrong(t, api.ErrRange, 0, list(0x82, long, 0x82, "")...)
	checkWrong(t, api.ErrRange, 0, list(0x82, long, 0x82, long)...)
	checkWrong(t, api.ErrRange, 1, list(0x82, "", 0x84, long, 0x82, "", 0x70, "")...)
	checkWrong(t, api.ErrTwice, 1, list(0x82, "", 0x82, "", 0x70, "", 0x84, long)...)
	checkWrong(t, api.ErrTwice, 1, list(0x82, "", 0x82, "", 0x84, long, 0x70, "")...)
	checkWrong(t, api.ErrTwice, 2, list(0x82, "", 0x84, "", 0x84, "", 0x82, "", 0x70, "")...)
}

// A tag behind all that there are is one that stands ahead.
func TestListOfAllTags(t *testing.T) {
	var l []api.Tlv
	for i, tag := range allTags() {
		l = append(l, api.Tlv{Tag: tag, Value: fill(i % 300)})
	}
	b := bytesOfAll(l)
	checkRight(t, b, l...)
	checkGet(t, b, l...)
	for i, x := range l {
		checkFind(t, l, x.Tag, x.Value)
		if i%50 == 0 {
			checkWrong(t, api.ErrTwice, len(l), append(slices.Clone(l), api.Tlv{Tag: x.Tag})...)
			checkGetWrong(t, b+bytesOf(x), api.ErrTwice, len(b))
		}
	}
}

// The bound of a list is on each value alone.
func TestLongList(t *testing.T) {
	var l []api.Tlv
	for _, tag := range allTags()[:100] {
		l = append(l, api.Tlv{Tag: tag, Value: fill(65535)})
	}
	b := bytesOfAll(l)
	checkRight(t, b, l...)
	checkGet(t, b, l...)
}

// P10.2

func TestGetOrdinary(t *testing.T) {
	checkGet(t, "")
	checkGet(t, "\x82\x00", list(0x82, "")...)
	checkGet(t, "\x82\x02\x58\x00", list(0x82, "\x58\x00")...)
	checkGet(t, "\x9f\x36\x02\x00\x1b", list(0x9F36, "\x00\x1b")...)
	checkGet(t, "\x82\x02\x58\x00\x9f\x36\x02\x00\x1b", list(0x82, "\x58\x00", 0x9F36, "\x00\x1b")...)
	checkGet(t, "\x9f\x36\x00\x82\x00\x01\x00", list(0x9F36, "", 0x82, "", 0x01, "")...)
	// What stands in a value is no tag.
	checkGet(t, "\x82\x04\x9f\x36\x82\x00\x9f\x36\x02\x82\x00", list(0x82, "\x9f\x36\x82\x00", 0x9F36, "\x82\x00")...)
}

func TestGetLengths(t *testing.T) {
	for _, n := range lengths() {
		for _, m := range lengths() {
			l := list(0x82, fill(n), 0x9F36, fill(m))
			checkGet(t, bytesOfAll(l), l...)
		}
	}
}

// What is wrong with a tag is told at its place, behind whole ones too.
func TestGetWrongTags(t *testing.T) {
	for first := range 256 {
		for _, behind := range []string{"", "\x00", "\x01a", "\x02\x00", "\x7f\x00", "\x80\x00", "\xff\x00", "\x81\x05", "\x82\x00\x82\x00"} {
			b := string([]byte{byte(first)}) + behind
			for _, ahead := range aheads() {
				switch {
				case first == 0 || first/32%2 == 1:
					checkGetWrong(t, ahead+b, api.ErrTag, len(ahead))
				case first%32 == 31 && behind == "":
					checkGetWrong(t, ahead+b, api.ErrCut, len(ahead))
				case first%32 == 31 && (b[1] == 0 || b[1] >= 0x80):
					checkGetWrong(t, ahead+b, api.ErrTag, len(ahead))
				}
			}
		}
	}
}

// What is wrong with a length is told at its place: behind a tag of one byte or of two.
func TestGetWrongLengths(t *testing.T) {
	wrong := map[string]api.Errno{
		"": api.ErrCut, "\x81": api.ErrCut, "\x82": api.ErrCut, "\x82\x01": api.ErrCut, "\x82\x00": api.ErrCut,
		"\x80": api.ErrLength, "\x80\x00": api.ErrLength, "\x83": api.ErrLength, "\x83\x01\x00\x00": api.ErrLength, "\xff": api.ErrLength, "\xc0ab": api.ErrLength,
		"\x81\x00": api.ErrLength, "\x81\x01a": api.ErrLength, "\x81\x7f" + fill(0x7F): api.ErrLength, "\x81\x7f": api.ErrLength,
		"\x82\x00\x00": api.ErrLength, "\x82\x00\x80" + fill(0x80): api.ErrLength, "\x82\x00\xff": api.ErrLength,
	}
	for b, err := range wrong {
		for _, ahead := range aheads() {
			checkGetWrong(t, ahead+"\x82"+b, err, len(ahead)+1)
			checkGetWrong(t, ahead+"\x9f\x36"+b, err, len(ahead)+2)
		}
	}
}

// A value that isn't all there is told at the end, however much of it is there.
func TestGetCutValues(t *testing.T) {
	for _, ahead := range aheads() {
		for _, tag := range []int{0x82, 0x9F36} {
			for _, n := range []int{1, 2, 5, 0x7F, 0x80, 0xFF, 0x100, 65535} {
				whole := bytesOf(api.Tlv{Tag: tag, Value: fill(n)})
				for _, missing := range []int{1, 2, n / 2, n - 1, n} {
					if missing < 1 || missing > n {
						continue
					}
					b := ahead + whole[:len(whole)-missing]
					checkGetWrong(t, b, api.ErrCut, len(b))
				}
			}
		}
	}
}

func TestGetCutAtEachPlace(t *testing.T) {
	l := list(0x82, "\x58\x00", 0x9F36, "", 0x5A, fill(0x80), 0x5F2A, fill(0x100), 0x84, "", 0x9F10, "abc")
	b := bytesOfAll(l)
	// By the place of a cut: how many are whole, and where a fault there is told, if there is one.
	for end := range len(b) {
		rest, at, whole := end, 0, 0
		for rest >= len(bytesOf(l[whole])) {
			rest -= len(bytesOf(l[whole]))
			at += len(bytesOf(l[whole]))
			whole++
		}
		x := bytesOf(l[whole])
		value := len(x) - len(l[whole].Value)
		tag := 1
		if l[whole].Tag > 0xFF {
			tag = 2
		}
		switch {
		case rest == 0:
			checkGet(t, b[:end], l[:whole]...)
		case rest < tag:
			checkGetWrong(t, b[:end], api.ErrCut, at)
		case rest < value:
			checkGetWrong(t, b[:end], api.ErrCut, at+tag)
		default:
			checkGetWrong(t, b[:end], api.ErrCut, end)
		}
	}
}

func TestGetTagsThatStandAhead(t *testing.T) {
	for _, ahead := range aheads() {
		for _, between := range []string{"", "\x9f\x37\x01x", "\x9f\x33\x00\xdf\x01\x00"} {
			for _, tag := range []int{0x82, 0x9F36} {
				for _, value := range []string{"", "a", fill(0x80), fill(65535)} {
					front := ahead + bytesOf(api.Tlv{Tag: tag, Value: "a"}) + between
					b := front + bytesOf(api.Tlv{Tag: tag, Value: value})
					checkGetWrong(t, b, api.ErrTwice, len(front))
					checkGetWrong(t, b+"\x8a\x00", api.ErrTwice, len(front))
				}
			}
		}
	}
}

func TestGetOrderOfErrors(t *testing.T) {
	// In one: the tag, the length, the value, then the tags ahead.
	checkGetWrong(t, "\x70\x80", api.ErrTag, 0)
	checkGetWrong(t, "\x9f\x80\x80", api.ErrTag, 0)
	checkGetWrong(t, "\x82\x80", api.ErrLength, 1)
	checkGetWrong(t, "\x82\x00\x82\x80", api.ErrLength, 3)
	checkGetWrong(t, "\x82\x00\x82\x81\x01a", api.ErrLength, 3)
	checkGetWrong(t, "\x82\x00\x82", api.ErrCut, 3)
	checkGetWrong(t, "\x82\x00\x82\x81", api.ErrCut, 3)
	checkGetWrong(t, "\x82\x00\x82\x05", api.ErrCut, 4)
	checkGetWrong(t, "\x82\x00\x82\x05abcd", api.ErrCut, 8)
	checkGetWrong(t, "\x9f\x36\x00\x9f\x36\x05abcd", api.ErrCut, 10)
	checkGetWrong(t, "\x82\x00\x82\x05abcde", api.ErrTwice, 2)
	// In different ones: the first.
	checkGetWrong(t, "\x70\x00\x82\x80", api.ErrTag, 0)
	checkGetWrong(t, "\x82\x80\x70\x00", api.ErrLength, 1)
	checkGetWrong(t, "\x82\x00\x82\x00\x70\x00", api.ErrTwice, 2)
	checkGetWrong(t, "\x82\x00\x82\x00\x84\x80", api.ErrTwice, 2)
	checkGetWrong(t, "\x82\x00\x82\x00\x84\x05", api.ErrTwice, 2)
	checkGetWrong(t, "\x82\x00\x82\x00\x82\x00", api.ErrTwice, 2)
	checkGetWrong(t, "\x82\x00\x84\x05\x82\x00", api.ErrCut, 6)
	checkGetWrong(t, "\x82\x00\x70\x00\x82\x00", api.ErrTag, 2)
}

// readAll: what Get must answer, by another way than the program's: a row of steps over what is left.
func readAll(b string) ([]api.Tlv, api.Errno, int) {
	var l []api.Tlv
	left := b
	for left != "" {
		at := len(b) - len(left)
		size := 1
		if left[0]%32 == 31 {
			size = 2
		}
		if left[0] == 0 || left[0]/32%2 == 1 {
			return nil, api.ErrTag, at
		}
		if len(left) < size {
			return nil, api.ErrCut, at
		}
		tag := int(left[0])
		if size == 2 {
			tag = tag*256 + int(left[1])
		}
		if !isTag(tag) {
			return nil, api.ErrTag, at
		}
		n, more, err := readLength(left[size:])
		if err != api.OK {
			return nil, err, at + size
		}
		if len(left) < size+more+n {
			return nil, api.ErrCut, len(b)
		}
		x := api.Tlv{Tag: tag, Value: left[size+more : size+more+n]}
		if slices.ContainsFunc(l, func(y api.Tlv) bool { return y.Tag == x.Tag }) {
			return nil, api.ErrTwice, at
		}
		l = append(l, x)
		left = left[size+more+n:]
	}
	return l, api.OK, 0
}

// readLength: a length at the front, and how many bytes it takes.
func readLength(b string) (int, int, api.Errno) {
	switch {
	case b == "":
		return 0, 0, api.ErrCut
	case b[0] < 0x80:
		return int(b[0]), 1, api.OK
	case b[0] != 0x81 && b[0] != 0x82:
		return 0, 0, api.ErrLength
	}
	size := int(b[0]) - 0x7F
	if len(b) < size {
		return 0, 0, api.ErrCut
	}
	n := int(b[1])
	if size == 3 {
		n = n*256 + int(b[2])
	}
	if n < 0x80 || size == 3 && n < 0x100 {
		return 0, 0, api.ErrLength
	}
	return n, size, api.OK
}

// texts: so many short texts, of bytes that tags, lengths and values are made of, by a rule of their own.
func texts(many int) []string {
	pieces := []string{"\x82", "\x82", "\x9f\x36", "\x5a", "\x9f", "\x00", "\x00", "\x01", "\x02", "a", "bc", "\x81", "\x80", "\x70", "\x82\x00", "\x5a\x01a", "\x81\x80" + fill(0x80), "\x82\x01\x00" + fill(0x100), "\xff"}
	state := uint32(1)
	var out []string
	for range many {
		var b strings.Builder
		state = state*1664525 + 1013904223
		for range state >> 16 % 9 {
			state = state*1664525 + 1013904223
			b.WriteString(pieces[int(state>>16)%len(pieces)])
		}
		out = append(out, b.String())
	}
	return out
}

func checkGetByReader(t *testing.T, b string) {
	t.Helper()
	want, wantErr, place := readAll(b)
	if wantErr != api.OK {
		checkGetWrong(t, b, wantErr, place)
	} else {
		checkGet(t, b, want...)
	}
}

func TestGetManyTexts(t *testing.T) {
	seen := map[api.Errno]int{}
	for _, b := range texts(200000) {
		checkGetByReader(t, b)
		_, err, _ := Get(b)
		seen[err]++
	}
	for _, err := range []api.Errno{api.OK, api.ErrCut, api.ErrTag, api.ErrLength, api.ErrTwice} {
		if seen[err] < 100 {
			t.Errorf("only %d texts answer %d", seen[err], err)
		}
	}
}

func TestGetEachPairOfBytes(t *testing.T) {
	for x := range 0x10000 {
		two := string([]byte{byte(x >> 8), byte(x)})
		for _, behind := range []string{"", "\x00", "\x01a", "\x5a\x00\x82\x00"} {
			checkGetByReader(t, two+behind)
			checkGetByReader(t, "\x82\x00"+two+behind)
		}
	}
}

// With an error there is no list, whatever was whole ahead of it.
func TestGetWithAnErrorHasNone(t *testing.T) {
	for _, b := range []string{"\x5a\x01a\x70", "\x5a\x01a\x82\x80", "\x5a\x01a\x82\x02a", "\x5a\x01a\x5a\x00", "\x5a\x01a\x82"} {
		if l, _, _ := Get(b); len(l) != 0 {
			t.Errorf("Get(% X): %v", b, l)
		}
	}
}

// What two calls answer shares nothing: nothing is kept between them.
func TestGetAnswersNewLists(t *testing.T) {
	b := "\x82\x01a\x9f\x36\x01b"
	first, _, _ := Get(b)
	second, _, _ := Get(b)
	first[0].Value, first[1].Tag = "z", 1
	_ = append(first[:1], api.Tlv{Tag: 2})
	if !slices.Equal(second, list(0x82, "a", 0x9F36, "b")) {
		t.Error(second)
	}
	checkGet(t, b, list(0x82, "a", 0x9F36, "b")...)
	// Nor do the tags of one call stand ahead in the next.
	checkRight(t, "\x82\x00", list(0x82, "")...)
	checkRight(t, "\x82\x00", list(0x82, "")...)
}

func TestSpareRoomIsLeftAlone(t *testing.T) {
	spare := list(0x82, "a", 0x9F36, "b", 0x5A, "c", 0x70, "d")
	was := slices.Clone(spare)
	l := spare[:2]
	checkRight(t, "\x82\x01a\x9f\x36\x01b", l...)
	checkFind(t, l, 0x9F36, "b")
	checkFindNone(t, l, 0x5A)
	if !slices.Equal(spare, was) {
		t.Error(spare)
	}
}

// P10.3

func TestFind(t *testing.T) {
	l := list(0x9F02, "\x01\x00", 0x5A, "", 0x82, "\x58\x00", 0x9F36, fill(300))
	checkFind(t, l, 0x9F02, "\x01\x00")
	checkFind(t, l, 0x5A, "")
	checkFind(t, l, 0x82, "\x58\x00")
	checkFind(t, l, 0x9F36, fill(300))
	for _, tag := range []int{0, 1, 0x02, 0x36, 0x9F, 0x9F03, 0x5A00, 0x8200, 0x10082, 0x19F02, -0x82, 1<<32 + 0x82, math.MaxInt, math.MinInt} {
		checkFindNone(t, l, tag)
	}
	for n := range 0x10000 {
		if n != 0x9F02 && n != 0x5A && n != 0x82 && n != 0x9F36 {
			checkFindNone(t, l, n)
		}
	}
}

func TestFindInNone(t *testing.T) {
	for _, tag := range []int{0, 0x82, 0x9F02, -1} {
		checkFindNone(t, nil, tag)
		checkFindNone(t, []api.Tlv{}, tag)
	}
}

func TestFindTheFirstOfTwo(t *testing.T) {
	checkFind(t, list(0x82, "a", 0x82, "b"), 0x82, "a")
	checkFind(t, list(0x82, "", 0x82, "b"), 0x82, "")
	checkFind(t, list(0x5A, "x", 0x82, "b", 0x9F36, "y", 0x82, "a", 0x82, "c"), 0x82, "b")
	checkFind(t, list(0x5A, "x", 0x9F36, "b", 0x9F36, "a"), 0x9F36, "b")
}

// A list that Check refuses is looked through all the same, for numbers that are no tags, too.
func TestFindInWrongLists(t *testing.T) {
	l := list(0x70, "a", -1, "b", 0, "c", math.MaxInt, "d", 0x82, fill(65536), 0x70, "e", 0x9F36, "f")
	checkFind(t, l, 0x70, "a")
	checkFind(t, l, -1, "b")
	checkFind(t, l, 0, "c")
	checkFind(t, l, math.MaxInt, "d")
	checkFind(t, l, 0x82, fill(65536))
	checkFind(t, l, 0x9F36, "f")
	checkFindNone(t, l, 0x84)
}

func TestFindLeavesTheListAlone(t *testing.T) {
	l := list(0x82, "a", 0x9F36, "b", 0x82, "c")
	was := slices.Clone(l)
	for _, tag := range []int{0x82, 0x9F36, 0x5A} {
		Find(l, tag)
	}
	if !slices.Equal(l, was) {
		t.Error(l)
	}
}

// P10.4

func TestPutThenGet(t *testing.T) {
	all := allTags()
	state := uint32(7)
	next := func(below int) int {
		state = state*1664525 + 1013904223
		return int(state>>8) % below
	}
	for range 20000 {
		var l []api.Tlv
		for range next(8) {
			value := make([]byte, []int{0, 1, 5, 127, 128, 255, 256, 300}[next(8)])
			for i := range value {
				value[i] = byte(next(256))
			}
			l = append(l, api.Tlv{Tag: all[next(len(all))], Value: string(value)})
		}
		b, err := Put(l...)
		if check, _ := Check(l...); check != err {
			t.Errorf("Put: %d, Check: %d", err, check)
		}
		if err == api.OK {
			checkGet(t, b, l...)
			checkFindAll(t, l)
		}
	}
}

func checkFindAll(t *testing.T, l []api.Tlv) {
	t.Helper()
	for _, x := range l {
		checkFind(t, l, x.Tag, x.Value)
	}
}

// TestGetThenPut: so no two texts tell one list.
func TestGetThenPut(t *testing.T) {
	got := 0
	for _, b := range texts(200000) {
		l, err, _ := Get(b)
		if err != api.OK {
			continue
		}
		got++
		checkRight(t, b, l...)
	}
	if got < 1000 {
		t.Errorf("only %d texts were got", got)
	}
}

func FuzzGet(f *testing.F) {
	f.Add("")
	f.Add("\x9f\x02\x02\x01\x00\x5a\x00")
	f.Add("\x5a\x01\x41\x5a\x00")
	f.Add("\x82\x81\x80" + fill(0x80))
	f.Fuzz(func(t *testing.T, b string) {
		checkGetByReader(t, b)
		if l, err, _ := Get(b); err == api.OK {
			checkRight(t, b, l...)
		}
	})
}
