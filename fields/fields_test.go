package fields

import (
	"math"
	"slices"
	"testing"

	"groat/api"
)

// plain is a set by another way than the program's: a list that says of each number whether it is in it.
type plain [api.MaxField + 1]bool

// plainOf: the plain set of these, all from 1 to 128.
func plainOf(n ...int) plain {
	var p plain
	for _, x := range n {
		p[x] = true
	}
	return p
}

// numbers: what is in a plain set, the least first.
func (p plain) numbers() []int {
	var out []int
	for n := 1; n <= api.MaxField; n++ {
		if p[n] {
			out = append(out, n)
		}
	}
	return out
}

// bits: a plain set's bits, each half read from the left.
func (p plain) bits() (high, low uint64) {
	for n := 1; n <= 64; n++ {
		high = high * 2
		if p[n] {
			high++
		}
	}
	for n := 65; n <= 128; n++ {
		low = low * 2
		if p[n] {
			low++
		}
	}
	return high, low
}

// next: the least number above n that is in a plain set.
func (p plain) next(n int) int {
	for _, x := range p.numbers() {
		if x > n {
			return x
		}
	}
	return 0
}

// wrongNumbers: numbers that no set may have.
func wrongNumbers() []int {
	return []int{0, -1, -2, -63, -64, -65, -127, -128, -129, 129, 130, 191, 192, 193, 255, 256, 257, 1 << 31, 1<<31 + 1, 1 << 32, 1<<32 + 1, 1<<32 + 64, -1 << 32, -1<<32 + 5, 1 << 40, math.MaxInt, math.MaxInt - 1, math.MaxInt - 63, math.MinInt, math.MinInt + 1, math.MinInt + 64}
}

// samples: numbers of sets of many shapes, each list ordered and without a number twice.
func samples() [][]int {
	out := [][]int{
		nil, {1}, {2}, {63}, {64}, {65}, {66}, {127}, {128},
		{1, 128}, {64, 65}, {1, 64}, {65, 128}, {1, 64, 65, 128}, {3, 65}, {2, 64, 65, 128},
		{2, 3, 4, 7, 11, 12, 37, 39, 41, 55, 70, 102}, {63, 66},
	}
	var all, odd, even, left, right, thirds []int
	for n := 1; n <= 128; n++ {
		all = append(all, n)
		if n%2 == 1 {
			odd = append(odd, n)
		} else {
			even = append(even, n)
		}
		if n <= 64 {
			left = append(left, n)
		} else {
			right = append(right, n)
		}
		if n%3 == 0 {
			thirds = append(thirds, n)
		}
	}
	return append(out, all, odd, even, left, right, thirds, all[1:], all[:127])
}

// checkSet: has the set these numbers, and no other one, by every call that tells of it?
func checkSet(t *testing.T, what string, s Set, numbers ...int) {
	t.Helper()
	p := plainOf(numbers...)
	want := p.numbers()
	var has, walked []int
	for n := -3; n <= api.MaxField+3; n++ {
		if s.Has(n) {
			has = append(has, n)
		}
	}
	for n := s.Next(0); n != 0 && len(walked) <= api.MaxField; n = s.Next(n) {
		walked = append(walked, n)
	}
	if !slices.Equal(has, want) {
		t.Errorf("%s: has %v; want %v", what, has, want)
	}
	if !slices.Equal(walked, want) {
		t.Errorf("%s: by Next %v; want %v", what, walked, want)
	}
	if s.Len() != len(want) {
		t.Errorf("%s: Len %d; want %d", what, s.Len(), len(want))
	}
	high, low := s.Halves()
	if wantHigh, wantLow := p.bits(); high != wantHigh || low != wantLow {
		t.Errorf("%s: bits %016X %016X; want %016X %016X", what, high, low, wantHigh, wantLow)
	}
}

func checkBits(t *testing.T, s Set, high, low uint64) {
	t.Helper()
	if h, l := s.Halves(); h != high || l != low {
		t.Errorf("bits %016X %016X; want %016X %016X", h, l, high, low)
	}
}

func checkNext(t *testing.T, s Set, n, want int) {
	t.Helper()
	if got := s.Next(n); got != want {
		t.Errorf("Next(%d): %d; want %d", n, got, want)
	}
}

// P5.1

func TestOf(t *testing.T) {
	for _, numbers := range samples() {
		checkSet(t, "Of", Of(numbers...), numbers...)
	}
	checkSet(t, "in any order", Of(128, 2, 65, 64), 2, 64, 65, 128)
	checkSet(t, "told twice", Of(2, 64, 2, 128, 64, 2), 2, 64, 128)
	checkSet(t, "told an even count of times", Of(7, 7), 7)
	checkSet(t, "of an empty list", Of([]int{}...))
}

func TestOfEachNumber(t *testing.T) {
	for n := 1; n <= api.MaxField; n++ {
		checkSet(t, "one number", Of(n), n)
	}
}

func TestOfLeavesOutWrongNumbers(t *testing.T) {
	checkSet(t, "0 and 129", Of(0, 129))
	checkSet(t, "wrong ones alone", Of(wrongNumbers()...))
	for _, wrong := range wrongNumbers() {
		checkSet(t, "one wrong", Of(wrong))
		checkSet(t, "wrong first", Of(wrong, 1, 64, 65, 128), 1, 64, 65, 128)
		checkSet(t, "wrong between", Of(1, 64, wrong, 65, 128), 1, 64, 65, 128)
		checkSet(t, "wrong last", Of(128, 1, wrong), 1, 128)
	}
}

func TestOfLeavesItsNumbers(t *testing.T) {
	numbers := []int{128, 0, 3, 129, 3, 1}
	spare := append(numbers, 77)[:len(numbers)]
	was := slices.Clone(spare[:cap(spare)])
	s := Of(spare...)
	if !slices.Equal(spare[:cap(spare)], was) {
		t.Errorf("the list is %v; it was %v", spare[:cap(spare)], was)
	}
	spare[0] = 5
	checkSet(t, "behind a change of the list", s, 1, 3, 128)
}

func TestBitsOfTheEdges(t *testing.T) {
	checkBits(t, Of(), 0, 0)
	checkBits(t, Of(1), 1<<63, 0)
	checkBits(t, Of(2), 1<<62, 0)
	checkBits(t, Of(63), 2, 0)
	checkBits(t, Of(64), 1, 0)
	checkBits(t, Of(65), 0, 1<<63)
	checkBits(t, Of(66), 0, 1<<62)
	checkBits(t, Of(127), 0, 2)
	checkBits(t, Of(128), 0, 1)
	checkBits(t, Of(1, 64), 0x8000000000000001, 0)
	checkBits(t, Of(65, 128), 0, 0x8000000000000001)
}

func TestBitsAndHalves(t *testing.T) {
	words := []uint64{0, 1, 2, 1 << 31, 1 << 32, 1 << 62, 1 << 63, 0x8000000000000001, 0x0123456789ABCDEF, 0xFEDCBA9876543210, math.MaxUint64, math.MaxUint64 - 1, math.MaxUint64 >> 1}
	for _, high := range words {
		for _, low := range words {
			checkBits(t, Bits(high, low), high, low)
		}
	}
	for _, numbers := range samples() {
		high, low := plainOf(numbers...).bits()
		checkSet(t, "Bits", Bits(high, low), numbers...)
	}
}

func TestHasOfWrongNumbers(t *testing.T) {
	for _, s := range []Set{{}, Of(1, 64, 65, 128), Bits(math.MaxUint64, math.MaxUint64)} {
		for _, wrong := range wrongNumbers() {
			if s.Has(wrong) {
				t.Errorf("Has(%d): true", wrong)
			}
		}
	}
}

func TestWithAndWithout(t *testing.T) {
	for _, numbers := range samples() {
		s := Of(numbers...)
		for n := 1; n <= api.MaxField; n++ {
			checkSet(t, "With", s.With(n), append(slices.Clone(numbers), n)...)
			rest := slices.DeleteFunc(slices.Clone(numbers), func(x int) bool { return x == n })
			checkSet(t, "Without", s.Without(n), rest...)
		}
	}
}

func TestWithOfWhatIsThereAndWithoutOfWhatIsNot(t *testing.T) {
	s := Of(1, 64, 65, 128)
	for _, n := range []int{1, 64, 65, 128} {
		checkSet(t, "With of what is there", s.With(n), 1, 64, 65, 128)
	}
	for _, n := range []int{2, 63, 66, 127} {
		checkSet(t, "Without of what is not", s.Without(n), 1, 64, 65, 128)
	}
	checkSet(t, "Without of none", Set{}.Without(5))
}

func TestWithAndWithoutOfWrongNumbers(t *testing.T) {
	for _, numbers := range samples() {
		s := Of(numbers...)
		for _, wrong := range wrongNumbers() {
			if s.With(wrong) != s {
				t.Errorf("%v: With(%d) is another set", numbers, wrong)
			}
			if s.Without(wrong) != s {
				t.Errorf("%v: Without(%d) is another set", numbers, wrong)
			}
		}
	}
}

func TestLen(t *testing.T) {
	s := Set{}
	for n := 1; n <= api.MaxField; n++ {
		s = s.With(n)
		if s.Len() != n {
			t.Errorf("1 to %d: Len %d", n, s.Len())
		}
	}
}

func TestNext(t *testing.T) {
	s := Of(2, 64, 65, 128)
	checkNext(t, s, 0, 2)
	checkNext(t, s, 1, 2)
	checkNext(t, s, 2, 64)
	checkNext(t, s, 63, 64)
	checkNext(t, s, 64, 65)
	checkNext(t, s, 65, 128)
	checkNext(t, s, 127, 128)
	checkNext(t, s, 128, 0)
	checkNext(t, Of(3, 65), 3, 65)
	checkNext(t, Of(3, 65), 64, 65)
	checkNext(t, Of(3, 65), 65, 0)
	checkNext(t, Of(1), 0, 1)
	checkNext(t, Of(1), 1, 0)
	checkNext(t, Of(64), 64, 0)
}

func TestNextEverywhere(t *testing.T) {
	for _, numbers := range samples() {
		s, p := Of(numbers...), plainOf(numbers...)
		for n := -130; n <= 260; n++ {
			checkNext(t, s, n, p.next(n))
		}
	}
}

func TestNextOfWrongNumbers(t *testing.T) {
	for _, numbers := range samples() {
		s, p := Of(numbers...), plainOf(numbers...)
		for _, wrong := range wrongNumbers() {
			checkNext(t, s, wrong, p.next(wrong))
		}
	}
}

func TestZeroSet(t *testing.T) {
	var s Set
	checkSet(t, "the zero Set", s)
	checkNext(t, s, math.MinInt, 0)
	checkSet(t, "With", s.With(128), 128)
	checkSet(t, "Either", s.Either(Of(9)), 9)
	checkSet(t, "Both", s.Both(Of(9)))
}

func TestAll(t *testing.T) {
	var numbers []int
	for n := 1; n <= 128; n++ {
		numbers = append(numbers, n)
	}
	checkSet(t, "all by their bits", Bits(math.MaxUint64, math.MaxUint64), numbers...)
	checkSet(t, "all by their numbers", Of(numbers...), numbers...)
}

// P5.2

func TestBothAndEither(t *testing.T) {
	checkSet(t, "some in common", Of(2, 64, 65).Both(Of(65, 3, 2)), 2, 65)
	checkSet(t, "some in common", Of(2, 64, 65).Either(Of(65, 3, 2)), 2, 3, 64, 65)
	checkSet(t, "none in common", Of(1, 65).Both(Of(64, 128)))
	checkSet(t, "none in common", Of(1, 65).Either(Of(64, 128)), 1, 64, 65, 128)
	checkSet(t, "across the halves", Of(1).Both(Of(65)))
	checkSet(t, "across the halves", Of(1).Either(Of(65)), 1, 65)
}

func TestBothAndEitherOfEachPair(t *testing.T) {
	for _, a := range samples() {
		for _, b := range samples() {
			p, q := plainOf(a...), plainOf(b...)
			var both, either []int
			for n := 1; n <= api.MaxField; n++ {
				if p[n] && q[n] {
					both = append(both, n)
				}
				if p[n] || q[n] {
					either = append(either, n)
				}
			}
			checkSet(t, "Both", Of(a...).Both(Of(b...)), both...)
			checkSet(t, "Either", Of(a...).Either(Of(b...)), either...)
		}
	}
}

// P5.3

func TestSameNumbersAreTheSameSet(t *testing.T) {
	ways := []Set{
		Of(1, 64, 65, 128),
		Of(128, 65, 64, 1),
		Of(1, 1, 64, 0, 65, 129, 128, -5),
		Bits(1<<63|1, 1<<63|1),
		Set{}.With(64).With(128).With(1).With(65).With(300),
		Bits(math.MaxUint64, math.MaxUint64).Both(Of(1, 64, 65, 128)),
		Of(1, 65).Either(Of(64, 65, 128)),
		Of(1, 5, 64, 65, 99, 128).Without(99).Without(5).Without(6),
	}
	seen := map[Set]int{}
	for i, s := range ways {
		if s != ways[0] {
			t.Errorf("way %d: another set", i)
		}
		seen[s]++
	}
	if len(seen) != 1 || seen[ways[0]] != len(ways) {
		t.Errorf("as keys: %v", seen)
	}
	if Of(5).Without(5) != (Set{}) || Of(0, 129) != (Set{}) || Of() != (Set{}) || Bits(0, 0) != (Set{}) || Of(1).Both(Of(2)) != (Set{}) {
		t.Error("a set of none isn't the zero Set")
	}
}

func TestOtherNumbersAreAnotherSet(t *testing.T) {
	for _, numbers := range samples() {
		s := Of(numbers...)
		seen := map[Set]int{s: 0}
		for n := 1; n <= api.MaxField; n++ {
			other := s.With(n)
			if s.Has(n) {
				other = s.Without(n)
			}
			if other == s {
				t.Errorf("%v: the same with %d changed", numbers, n)
			}
			seen[other] = n
		}
		if len(seen) != api.MaxField+1 || seen[s] != 0 {
			t.Errorf("%v: %d keys", numbers, len(seen))
		}
	}
	for i, a := range samples() {
		for j, b := range samples() {
			if (Of(a...) == Of(b...)) != slices.Equal(a, b) {
				t.Errorf("samples %d and %d: the same %v", i, j, Of(a...) == Of(b...))
			}
		}
	}
}

func TestNoCallChangesASet(t *testing.T) {
	for _, numbers := range samples() {
		s, other := Of(numbers...), Of(2, 64, 65, 127)
		for _, n := range append(wrongNumbers(), 1, 2, 64, 65, 127, 128) {
			s.Has(n)
			s.With(n)
			s.Without(n)
			s.Next(n)
		}
		s.Halves()
		s.Len()
		s.Both(other)
		s.Either(other)
		other.Both(s)
		other.Either(s)
		checkSet(t, "the set", s, numbers...)
		checkSet(t, "the other one", other, 2, 64, 65, 127)
	}
}
