package codes

import (
	"slices"
	"strconv"
	"strings"
	"testing"

	"groat/api"
)

// pairs: texts and what they become, by turns.
func pairs(fromsAndTos ...string) []api.Pair {
	var l []api.Pair
	for i := 0; i < len(fromsAndTos); i += 2 {
		l = append(l, api.Pair{From: fromsAndTos[i], To: fromsAndTos[i+1]})
	}
	return l
}

// numbered: so many pairs of which no text stands twice.
func numbered(n int) []api.Pair {
	var l []api.Pair
	for i := range n {
		l = append(l, api.Pair{From: "f" + strconv.Itoa(i), To: "t" + strconv.Itoa(i)})
	}
	return l
}

// same: numbered pairs, of which the one at second has the From of the one at first.
func same(n, first, second int) []api.Pair {
	l := numbered(n)
	l[second].From = l[first].From
	return l
}

// sameTo: numbered pairs, of which the one at second has the To of the one at first.
func sameTo(n, first, second int) []api.Pair {
	l := numbered(n)
	l[second].To = l[first].To
	return l
}

// other: the pairs the other way round, by another way than the program's.
func other(l []api.Pair) []api.Pair {
	var out []api.Pair
	for i := range l {
		out = append(out, api.Pair{From: l[i].To, To: l[i].From})
	}
	return out
}

// example: the chapter's table.
func example() []api.Pair { return pairs("00", "000", "05", "100") }

// texts: of such shapes as may be taken for each other; no two are the same.
func texts() []string {
	return []string{
		"", "\x00", "\x00\x00", "0", "00", "000", "00\x00", "05", "5", "+5", "5 ", " 5", "5\n", "a", "A", "a\x00", "a\x00b", "ab", "aba", "b", "\x7f", "\x80", "\xff", "\xfe", "\xff\xff", "\xef\xbf\xbd", "\u00e9", "e\u0301", "\xe9", "\xc3",
		long("x"), long("y"), long("") + "\x00", long(""),
	}
}

// long: a text that shows only at its end which one it is.
func long(end string) string { return strings.Repeat("z", 70000) + end }

// bounds: so many pairs as the greatest table has, their neighbours, and far from them.
func bounds() []int {
	return []int{0, 1, 2, 3, 127, 128, 129, 254, 255, 256, 257, 258, 300, 511, 512, 513, 1000, 65535, 65536, 65537}
}

// guarded calls with the pairs, and holds them, and the spare room behind them, against what they were.
func guarded(t *testing.T, l []api.Pair, call func([]api.Pair)) {
	t.Helper()
	all := append(slices.Clone(l), pairs("room", "a", "room", "a", "more", "b")...)
	was := slices.Clone(all)
	call(all[:len(l)])
	if !slices.Equal(all, was) {
		t.Errorf("a list of %d, or its spare room, was changed", len(l))
	}
}

func checkCheck(t *testing.T, l []api.Pair, want api.Errno, place int) {
	t.Helper()
	guarded(t, l, func(l []api.Pair) {
		if err, at := Check(l...); err != want || at != place {
			t.Errorf("Check of %d: %d, %d; want %d, %d", len(l), err, at, want, place)
		}
	})
}

func checkApply(t *testing.T, l []api.Pair, text, want string) {
	t.Helper()
	guarded(t, l, func(l []api.Pair) {
		if got, ok := Apply(l, text); got != want || !ok {
			t.Errorf("Apply of %d to %.40q: %.40q, %v; want %.40q, true", len(l), text, got, ok, want)
		}
	})
}

func checkApplyNone(t *testing.T, l []api.Pair, text string) {
	t.Helper()
	guarded(t, l, func(l []api.Pair) {
		if got, ok := Apply(l, text); got != "" || ok {
			t.Errorf("Apply of %d to %.40q: %.40q, %v; want none, false", len(l), text, got, ok)
		}
	})
}

func checkBijective(t *testing.T, l []api.Pair, want bool) {
	t.Helper()
	guarded(t, l, func(l []api.Pair) {
		if got := Bijective(l...); got != want {
			t.Errorf("Bijective of %d: %v; want %v", len(l), got, want)
		}
	})
}

func checkTurn(t *testing.T, l []api.Pair) {
	t.Helper()
	guarded(t, l, func(l []api.Pair) {
		got := Turn(l...)
		if !slices.Equal(got, other(l)) {
			t.Errorf("Turn of %d: %d pairs, that aren't the same the other way round", len(l), len(got))
		}
		if again := Turn(got...); !slices.Equal(again, l) {
			t.Errorf("Turn of %d, twice: %d pairs, that aren't as they were", len(l), len(again))
		}
	})
}

// checkUndone: do a bijective table and it turned undo each other?
func checkUndone(t *testing.T, l []api.Pair) {
	t.Helper()
	checkBijective(t, l, true)
	checkTurn(t, l)
	turned := Turn(l...)
	checkBijective(t, turned, true)
	for _, p := range l {
		checkApply(t, l, p.From, p.To)
		checkApply(t, turned, p.To, p.From)
	}
}

// firstTwice: the place of the first pair whose From stands ahead, by another way than the program's; -1, if there is none.
func firstTwice(l []api.Pair) int {
	for i, p := range l {
		if slices.ContainsFunc(l[:i], func(q api.Pair) bool { return q.From == p.From }) {
			return i
		}
	}
	return -1
}

// checkByReader: all calls, against what a second reader says of the pairs.
func checkByReader(t *testing.T, l []api.Pair, asked []string) {
	t.Helper()
	place := firstTwice(l)
	switch {
	case len(l) > 256:
		checkCheck(t, l, api.ErrRange, 256)
	case place >= 0:
		checkCheck(t, l, api.ErrTwice, place)
	default:
		checkCheck(t, l, api.OK, 0)
	}
	for _, text := range asked {
		at := slices.IndexFunc(l, func(p api.Pair) bool { return p.From == text })
		if at < 0 {
			checkApplyNone(t, l, text)
		} else {
			checkApply(t, l, text, l[at].To)
		}
	}
	checkTurn(t, l)
	if len(l) <= 256 && place < 0 && firstTwice(other(l)) < 0 {
		checkUndone(t, l)
	} else {
		checkBijective(t, l, false)
	}
}

// P19.1

func TestExamples(t *testing.T) {
	checkCheck(t, example(), api.OK, 0)
	checkApply(t, example(), "05", "100")
	checkApply(t, example(), "00", "000")
	checkApplyNone(t, example(), "06")
	checkApply(t, Turn(example()...), "100", "05")
	checkApplyNone(t, Turn(example()...), "05")
	checkUndone(t, example())
}

func TestCheckTables(t *testing.T) {
	for _, n := range bounds() {
		if n <= 256 {
			checkCheck(t, numbered(n), api.OK, 0)
		} else {
			checkCheck(t, numbered(n), api.ErrRange, 256)
		}
	}
}

func TestCheckOnePair(t *testing.T) {
	for _, from := range texts() {
		for _, to := range texts() {
			checkCheck(t, pairs(from, to), api.OK, 0)
		}
	}
}

func TestCheckNoPair(t *testing.T) {
	for _, l := range [][]api.Pair{nil, {}, make([]api.Pair, 0, 4)} {
		if err, at := Check(l...); err != api.OK || at != 0 {
			t.Errorf("Check of none: %d, %d", err, at)
		}
	}
	if err, at := Check(); err != api.OK || at != 0 {
		t.Errorf("Check: %d, %d", err, at)
	}
}

// Texts that look alike are others, as they are by their bytes.
func TestCheckLikeTexts(t *testing.T) {
	var l []api.Pair
	for _, from := range texts() {
		l = append(l, api.Pair{From: from})
	}
	checkCheck(t, l, api.OK, 0)
	slices.Reverse(l)
	checkCheck(t, l, api.OK, 0)
	for _, from := range texts() {
		checkCheck(t, append(slices.Clone(l), api.Pair{From: from, To: "x"}), api.ErrTwice, len(l))
	}
}

func TestCheckEachByte(t *testing.T) {
	for _, ahead := range []string{"", "\x80"} {
		var l []api.Pair
		for b := range 256 {
			l = append(l, api.Pair{From: ahead + string([]byte{byte(b)})})
		}
		checkCheck(t, l, api.OK, 0)
		for b := range 255 {
			spoilt := slices.Clone(l)
			spoilt[255].From = l[b].From
			checkCheck(t, spoilt, api.ErrTwice, 255)
		}
	}
}

// The second one is told, wherever the first one stands.
func TestCheckTwice(t *testing.T) {
	for n := 2; n <= 12; n++ {
		for second := 1; second < n; second++ {
			for first := range second {
				checkCheck(t, same(n, first, second), api.ErrTwice, second)
			}
		}
	}
	for _, n := range []int{255, 256} {
		for _, first := range []int{0, 1, 127, 128, 253} {
			for second := first + 1; second < n; second++ {
				checkCheck(t, same(n, first, second), api.ErrTwice, second)
			}
		}
	}
}

func TestCheckTwiceOfEachText(t *testing.T) {
	for _, text := range texts() {
		checkCheck(t, pairs(text, "x", text, "y"), api.ErrTwice, 1)
		checkCheck(t, pairs(text, "x", text, "x"), api.ErrTwice, 1)
		checkCheck(t, pairs(text, text, text, text), api.ErrTwice, 1)
		checkCheck(t, pairs("one", "x", text, "y", "two", "z", text, ""), api.ErrTwice, 3)
	}
}

// Of several only the first one is told.
func TestCheckTwiceSeveralTimes(t *testing.T) {
	checkCheck(t, pairs("a", "1", "a", "2", "a", "3"), api.ErrTwice, 1)
	checkCheck(t, pairs("a", "1", "b", "2", "b", "3", "a", "4"), api.ErrTwice, 2)
	checkCheck(t, pairs("a", "1", "b", "2", "a", "3", "b", "4"), api.ErrTwice, 2)
	checkCheck(t, pairs("c", "1", "a", "2", "b", "3", "b", "4", "b", "5", "a", "6"), api.ErrTwice, 3)
	for second := 1; second < 255; second++ {
		l := same(256, 0, second)
		l[255].From = l[254].From
		checkCheck(t, l, api.ErrTwice, second)
	}
}

// The count goes ahead, wherever a From stands twice.
func TestCheckCountGoesAhead(t *testing.T) {
	for _, n := range []int{257, 258, 300, 512, 1000} {
		for _, places := range [][2]int{{0, 1}, {0, 2}, {0, 255}, {0, 256}, {1, 2}, {100, 200}, {254, 255}, {255, 256}, {0, n - 1}, {n - 2, n - 1}} {
			checkCheck(t, same(n, places[0], places[1]), api.ErrRange, 256)
		}
		checkCheck(t, make([]api.Pair, n), api.ErrRange, 256)
	}
	checkCheck(t, make([]api.Pair, 256), api.ErrTwice, 1)
	checkCheck(t, make([]api.Pair, 1), api.OK, 0)
}

// What texts become plays no part.
func TestCheckLooksAtFromsAlone(t *testing.T) {
	checkCheck(t, pairs("a", "x", "b", "x"), api.OK, 0)
	checkCheck(t, pairs("a", "", "b", "", "c", ""), api.OK, 0)
	checkCheck(t, pairs("a", "b", "b", "c", "c", "a"), api.OK, 0)
	checkCheck(t, pairs("a", "b", "b", "a"), api.OK, 0)
	checkCheck(t, pairs("a", "a", "b", "b"), api.OK, 0)
	checkCheck(t, pairs("b", "a", "a", "c"), api.OK, 0)
	checkCheck(t, pairs("", "a", "a", ""), api.OK, 0)
	// Nor are From and To one text.
	checkCheck(t, pairs("a", "bc", "ab", "c", "abc", "", "", "abc"), api.OK, 0)
	checkCheck(t, pairs("a", "x", "a", "y"), api.ErrTwice, 1)
	var l []api.Pair
	for i := range 256 {
		l = append(l, api.Pair{From: strconv.Itoa(i), To: strconv.Itoa(255 - i)})
	}
	checkCheck(t, l, api.OK, 0)
	for i := range l {
		l[i].To = "0"
	}
	checkCheck(t, l, api.OK, 0)
}

func TestApplyOfTables(t *testing.T) {
	for _, n := range []int{1, 2, 10, 255, 256} {
		l := numbered(n)
		for _, p := range l {
			checkApply(t, l, p.From, p.To)
			checkApplyNone(t, l, p.To)
		}
		for _, text := range []string{"", "f", "t", "0", "f-1", "f" + strconv.Itoa(n), "F0", "f0 ", " f0", "f00", "f0\x00", "f0t0", "t0"} {
			checkApplyNone(t, l, text)
		}
	}
}

func TestApplyOfLikeTexts(t *testing.T) {
	var l []api.Pair
	for i, from := range texts() {
		checkApplyNone(t, l, from)
		l = append(l, api.Pair{From: from, To: strconv.Itoa(i)})
	}
	for i, from := range texts() {
		checkApply(t, l, from, strconv.Itoa(i))
		without := slices.Delete(slices.Clone(l), i, i+1)
		checkApplyNone(t, without, from)
	}
	for _, to := range texts() {
		checkApply(t, pairs("a", "b", "q", to), "q", to)
		checkApplyNone(t, pairs("a", "b", "q", to), "no")
	}
}

func TestApplyToTheEmptyText(t *testing.T) {
	checkApply(t, pairs("a", ""), "a", "")
	checkApply(t, pairs("a", "x", "b", "", "c", "y"), "b", "")
	checkApply(t, pairs("a", "", "a", "x"), "a", "")
	checkApply(t, pairs("", ""), "", "")
	checkApply(t, pairs("a", "b", "", "x"), "", "x")
	checkApply(t, pairs("", "x", "a", "y"), "", "x")
	checkApplyNone(t, pairs("a", ""), "")
	checkApplyNone(t, pairs("a", "", "b", ""), "c")
	checkApplyNone(t, pairs("", "x"), "x")
	checkApplyNone(t, pairs("", "x"), "\x00")
}

// What a text becomes isn't looked up again, and a text is looked up whole.
func TestApplyOnceAndWhole(t *testing.T) {
	chain := pairs("a", "b", "b", "c", "c", "a")
	checkApply(t, chain, "a", "b")
	checkApply(t, chain, "b", "c")
	checkApply(t, chain, "c", "a")
	checkApplyNone(t, pairs("05", "100"), "100")
	checkApplyNone(t, pairs("05", "100"), "0")
	checkApplyNone(t, pairs("05", "100"), "5")
	checkApplyNone(t, pairs("05", "100"), "050")
	checkApplyNone(t, pairs("05", "100"), "0505")
	checkApplyNone(t, pairs("a", "x"), "A")
	checkApply(t, pairs("a", "x", "ab", "y", "abc", "z"), "ab", "y")
	checkApply(t, pairs("abc", "z", "ab", "y", "a", "x"), "ab", "y")
}

func TestApplyOfNone(t *testing.T) {
	for _, text := range texts() {
		checkApplyNone(t, nil, text)
		if got, ok := Apply(nil, text); got != "" || ok {
			t.Errorf("Apply of nil: %q, %v", got, ok)
		}
		if got, ok := Apply([]api.Pair{}, text); got != "" || ok {
			t.Errorf("Apply of an empty list: %q, %v", got, ok)
		}
	}
}

// Pairs that are no table are looked through all the same.
func TestApplyOfNoTable(t *testing.T) {
	checkApply(t, pairs("a", "1", "a", "2"), "a", "1")
	checkApply(t, pairs("a", "2", "a", "1"), "a", "2")
	checkApply(t, pairs("b", "0", "a", "1", "c", "2", "a", "3", "a", "4"), "a", "1")
	checkApply(t, pairs("b", "0", "b", "1", "a", "2"), "a", "2")
	checkApply(t, pairs("", "0", "", "1", "a", "2"), "", "0")
	checkApplyNone(t, pairs("b", "0", "b", "1", "a", "2"), "c")
	for _, n := range []int{257, 258, 1000, 65537} {
		l := numbered(n)
		for _, i := range []int{0, 1, 254, 255, 256, n - 2, n - 1} {
			checkApply(t, l, l[i].From, l[i].To)
		}
		checkApplyNone(t, l, "f"+strconv.Itoa(n))
		checkApplyNone(t, l, "t0")
		checkApplyNone(t, l, "")
		checkApply(t, same(n, 0, n-1), "f0", "t0")
		checkApply(t, same(n, 255, 256), "f255", "t255")
		checkApply(t, same(n, 256, n-1), "f256", l[256].To)
	}
}

// P19.2

func TestBijectiveOfNoPair(t *testing.T) {
	for _, l := range [][]api.Pair{nil, {}, make([]api.Pair, 0, 4)} {
		if !Bijective(l...) {
			t.Error("Bijective of none: false")
		}
		if got := Turn(l...); len(got) != 0 {
			t.Errorf("Turn of none: %v", got)
		}
	}
	if !Bijective() || len(Turn()) != 0 {
		t.Error("of no arguments")
	}
}

func TestBijectiveOfOnePair(t *testing.T) {
	for _, from := range texts() {
		for _, to := range texts() {
			checkUndone(t, pairs(from, to))
		}
	}
}

func TestBijectiveOfNumbered(t *testing.T) {
	for _, n := range bounds() {
		if n <= 256 {
			checkUndone(t, numbered(n))
		} else {
			checkBijective(t, numbered(n), false)
		}
	}
}

func TestBijectiveOfNoTable(t *testing.T) {
	for n := 2; n <= 12; n++ {
		for second := 1; second < n; second++ {
			for first := range second {
				checkBijective(t, same(n, first, second), false)
			}
		}
	}
	for second := 1; second < 256; second++ {
		checkBijective(t, same(256, 0, second), false)
	}
	checkBijective(t, make([]api.Pair, 2), false)
	checkBijective(t, make([]api.Pair, 257), false)
	checkBijective(t, same(257, 0, 256), false)
	checkBijective(t, sameTo(257, 0, 256), false)
	checkBijective(t, pairs("a", "x", "b", "y", "a", "x"), false)
}

func TestBijectiveOfTheSameTo(t *testing.T) {
	for n := 2; n <= 12; n++ {
		for second := 1; second < n; second++ {
			for first := range second {
				checkCheck(t, sameTo(n, first, second), api.OK, 0)
				checkBijective(t, sameTo(n, first, second), false)
			}
		}
	}
	for _, n := range []int{255, 256} {
		for _, first := range []int{0, 1, 128, 253} {
			for second := first + 1; second < n; second++ {
				checkBijective(t, sameTo(n, first, second), false)
			}
		}
	}
	for _, text := range texts() {
		checkBijective(t, pairs("one", text, "two", text), false)
		checkBijective(t, pairs("one", text, "three", "x", "two", text), false)
	}
}

// Texts that look alike are others here, too.
func TestBijectiveOfLikeTexts(t *testing.T) {
	all := texts()
	for shift := range len(all) {
		var l []api.Pair
		for i, from := range all {
			l = append(l, api.Pair{From: from, To: all[(i+shift)%len(all)]})
		}
		checkBijective(t, l, true)
		checkTurn(t, l)
	}
	var l []api.Pair
	for i, to := range all {
		l = append(l, api.Pair{From: strconv.Itoa(i), To: to})
	}
	checkUndone(t, l)
	l[0].To = all[len(all)-1]
	checkBijective(t, l, false)
}

// That a text is a From and a To changes nothing.
func TestBijectiveBothWays(t *testing.T) {
	checkUndone(t, pairs("a", "b", "b", "a"))
	checkUndone(t, pairs("a", "a", "b", "b"))
	checkUndone(t, pairs("a", "b", "b", "c", "c", "a"))
	checkUndone(t, pairs("a", "b", "b", "c"))
	checkUndone(t, pairs("", "a", "a", ""))
	checkUndone(t, pairs("", ""))
	checkUndone(t, pairs("a", "bc", "ab", "c"))
	checkBijective(t, pairs("a", "b", "b", "b"), false)
	checkBijective(t, pairs("a", "", "b", ""), false)
	var l []api.Pair
	for i := range 256 {
		l = append(l, api.Pair{From: string([]byte{byte(i)}), To: string([]byte{byte(i*7 + 3)})})
	}
	checkUndone(t, l)
}

func TestTurn(t *testing.T) {
	if got := Turn(pairs("c", "1", "a", "2", "b", "3")...); !slices.Equal(got, pairs("1", "c", "2", "a", "3", "b")) {
		t.Error(got)
	}
	if got := Turn(example()...); !slices.Equal(got, pairs("000", "00", "100", "05")) {
		t.Error(got)
	}
	for _, n := range bounds() {
		checkTurn(t, numbered(n))
	}
	for _, from := range texts() {
		for _, to := range texts() {
			checkTurn(t, pairs("a", "b", from, to))
		}
	}
}

func TestTurnOfNoTable(t *testing.T) {
	checkTurn(t, pairs("a", "1", "a", "2"))
	checkTurn(t, pairs("a", "1", "b", "1"))
	checkTurn(t, pairs("a", "1", "a", "1"))
	checkTurn(t, pairs("a", "b", "b", "a"))
	checkTurn(t, make([]api.Pair, 2))
	checkTurn(t, make([]api.Pair, 300))
	checkTurn(t, same(300, 0, 299))
	checkTurn(t, sameTo(300, 0, 299))
	// A table that isn't bijective is none any more.
	checkCheck(t, Turn(pairs("a", "1", "b", "2", "c", "1")...), api.ErrTwice, 2)
	checkApply(t, Turn(pairs("a", "1", "b", "2", "c", "1")...), "1", "a")
}

func TestTurnAnswersNewMemory(t *testing.T) {
	for _, n := range []int{1, 2, 256, 300} {
		l := numbered(n)
		was := slices.Clone(l)
		first, second := Turn(l...), Turn(l...)
		for i := range first {
			first[i] = api.Pair{From: "spoilt", To: "spoilt"}
		}
		_ = append(first[:0], make([]api.Pair, n)...)
		if !slices.Equal(l, was) {
			t.Error("what was handed in was changed by what was answered")
		}
		if !slices.Equal(second, other(was)) {
			t.Error("one answer was changed by another one")
		}
		for i := range l {
			l[i] = api.Pair{From: "spoilt", To: "spoilt"}
		}
		if !slices.Equal(second, other(was)) {
			t.Error("what was answered was changed by what was handed in")
		}
		_ = append(second[:n-1], api.Pair{})
		if third := Turn(was...); !slices.Equal(third, other(was)) {
			t.Error("a later answer was changed by an earlier one")
		}
	}
}

// Nothing is kept between calls: no text of one stands ahead in the next.
func TestNothingIsKept(t *testing.T) {
	for range 3 {
		checkCheck(t, example(), api.OK, 0)
		checkCheck(t, pairs("00", "1", "00", "2"), api.ErrTwice, 1)
		checkCheck(t, numbered(257), api.ErrRange, 256)
		checkApply(t, example(), "05", "100")
		checkApplyNone(t, pairs("00", "000"), "05")
		checkBijective(t, example(), true)
		checkBijective(t, pairs("00", "000", "01", "000"), false)
		checkTurn(t, example())
	}
}

// manyLists: so many lists of texts that are often the same, by a rule of their own.
func manyLists(many, most int, pieces []string) [][]api.Pair {
	state := uint32(1)
	next := func(below int) int {
		state = state*1664525 + 1013904223
		return int(state>>8) % below
	}
	var out [][]api.Pair
	for range many {
		var l []api.Pair
		for range next(most + 1) {
			l = append(l, api.Pair{From: pieces[next(len(pieces))], To: pieces[next(len(pieces))]})
		}
		out = append(out, l)
	}
	return out
}

func TestManyLists(t *testing.T) {
	few := []string{"", "a", "b", "ab", "\x00", "\xff", "00", "05", "000", "100"}
	seen := map[api.Errno]int{}
	bijective := 0
	for _, l := range manyLists(50000, 7, few) {
		checkByReader(t, l, few)
		err, _ := Check(l...)
		seen[err]++
		if Bijective(l...) {
			bijective++
		}
	}
	if seen[api.OK] < 1000 || seen[api.ErrTwice] < 1000 || bijective < 1000 || seen[api.OK]-bijective < 1000 {
		t.Errorf("too few of a kind: %v, %d", seen, bijective)
	}
}

func TestManyLongLists(t *testing.T) {
	var pieces []string
	for i := range 20000 {
		pieces = append(pieces, strconv.Itoa(i))
	}
	for _, l := range manyLists(200, 400, pieces) {
		checkByReader(t, l, pieces[:5])
	}
}

// TestAllShortLists: each list of up to three pairs of three texts.
func TestAllShortLists(t *testing.T) {
	few := []string{"", "a", "b"}
	var all []api.Pair
	for _, from := range few {
		for _, to := range few {
			all = append(all, api.Pair{From: from, To: to})
		}
	}
	lists := [][]api.Pair{nil}
	for at := 0; at < len(lists); at++ {
		l := lists[at]
		checkByReader(t, l, few)
		for _, p := range all {
			if len(l) < 3 {
				lists = append(lists, append(slices.Clone(l), p))
			}
		}
	}
}

func FuzzLists(f *testing.F) {
	f.Add("00 000 05 100", "05")
	f.Add("a x a y", "a")
	f.Add("a x b x", "")
	f.Add("  ", "")
	f.Fuzz(func(t *testing.T, words, text string) {
		w := strings.Split(words, " ")
		if l := pairs(w[:len(w)/2*2]...); len(l) <= 1000 {
			checkByReader(t, l, append(w, text))
		}
	})
}
