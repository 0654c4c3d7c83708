package dialect

import (
	"math"
	"slices"
	"strconv"
	"strings"
	"testing"

	"groat/api"
	"groat/cell"
	"groat/fields"
	"groat/schema"
)

// chapter: the table of the fields of both dialects, by the words of the document, which are read by column.
const chapter = `
| 2 | n LL 12 to 19 | n LL 12 to 19 |
| 3 | n A 6 | n A 6 |
| 4 | n A 12 | n A 12 |
| 7 | n A 10 | n A 10 |
| 11 | n A 6 | n A 6 |
| 12 | n A 6 | n A 12 |
| 13 | n A 4 | none |
| 14 | n A 4 | n A 4 |
| 18 | n A 4 | none |
| 22 | n A 3 | an A 12 |
| 23 | n A 3 | n A 3 |
| 26 | none | n A 4 |
| 32 | n LL 1 to 11 | n LL 1 to 11 |
| 35 | ans LL 1 to 37 | ans LL 1 to 37 |
| 37 | an A 12 | an A 12 |
| 38 | an A 6 | an A 6 |
| 39 | an A 2 | n A 3 |
| 41 | ans A 8 | ans A 8 |
| 42 | ans A 15 | ans A 15 |
| 43 | ans A 40 | ans LL 1 to 99 |
| 48 | ans LLL 1 to 999 | ans LLL 1 to 999 |
| 49 | n A 3 | n A 3 |
| 52 | b A 8 | b A 8 |
| 55 | tlv LLL 1 to 255 | tlv LLL 1 to 255 |
| 64 | b A 8 | b A 8 |
| 70 | n A 3 | n A 3 |
| 90 | n A 42 | none |
| 102 | ans LL 1 to 28 | ans LL 1 to 28 |
| 128 | b A 8 | b A 8 |
`

// kept: the numbers of Lossless, by the words of the document.
var kept = []int{2, 3, 4, 7, 11, 12, 14, 23, 32, 35, 37, 38, 41, 42, 49, 52, 55, 64, 70, 102, 128}

// far: numbers that no field has, far from those that some have.
var far = []int{math.MinInt, math.MinInt + 2, -1 << 32, -256, -128, -126, -3, -2, -1, 131, 192, 256, 258, 1<<32 + 2, 1<<32 + 128, math.MaxInt}

// both: the two dialects, each with its column of the chapter's table.
var both = []struct {
	name    string
	get     func() api.Schema
	column  int
	style   int
	version int
	count   int
}{
	{"Acquirer", Acquirer, 1, api.SAscii, 0, 28},
	{"Issuer", Issuer, 2, api.SBinary, 1, 26},
}

// number: what a word of the table tells.
func number(t *testing.T, word string) int {
	t.Helper()
	n, err := strconv.Atoi(word)
	if err != nil {
		t.Fatal(err)
	}
	return n
}

// wanted: the specs that a column of the table says, from the top.
func wanted(t *testing.T, column int) []api.Spec {
	t.Helper()
	classes := map[string]int{"n": api.CDigits, "a": api.CLetters, "an": api.CAlnum, "ans": api.CPrint, "b": api.CBytes, "tlv": api.CTlv}
	forms := map[string]int{"A": api.FFixed, "LL": api.FTwo, "LLL": api.FThree}
	var list []api.Spec
	for line := range strings.Lines(strings.TrimSpace(chapter)) {
		cells := strings.Split(strings.Trim(strings.TrimSpace(line), "| "), " | ")
		if len(cells) != 3 {
			t.Fatalf("the table's line %q", line)
		}
		words := strings.Fields(cells[column])
		if len(words) == 1 && words[0] == "none" {
			continue
		}
		one := api.Spec{No: number(t, cells[0]), Class: classes[words[0]], Form: forms[words[1]], Min: number(t, words[2])}
		one.Max = one.Min
		if len(words) == 5 {
			one.Max = number(t, words[4])
		}
		list = append(list, one)
	}
	return list
}

// numbersOf: the numbers of some specs.
func numbersOf(list []api.Spec) []int {
	var nos []int
	for _, one := range list {
		nos = append(nos, one.No)
	}
	return nos
}

// checkDialects: is each dialect what the document says?
func checkDialects(t *testing.T, behind string) {
	t.Helper()
	for _, one := range both {
		got, want := one.get(), wanted(t, one.column)
		if got.Style != one.style || got.Version != one.version || !slices.Equal(got.Fields, want) {
			t.Errorf("%s, behind %s: %v; want %d, %d, %v", one.name, behind, got, one.style, one.version, want)
		}
	}
}

func checkSpec(t *testing.T, s api.Schema, want api.Spec) {
	t.Helper()
	got, ok := schema.Find(s, want.No)
	if !ok {
		t.Errorf("field %d: none", want.No)
		return
	}
	if got.No != want.No || got.Class != want.Class || got.Form != want.Form || got.Min != want.Min || got.Max != want.Max {
		t.Errorf("field %d: %v; want %v", want.No, got, want)
	}
}

func checkNone(t *testing.T, s api.Schema, no int) {
	t.Helper()
	for _, one := range s.Fields {
		if one.No == no {
			t.Errorf("field %d: %v; want none", no, one)
		}
	}
	if got, ok := schema.Find(s, no); ok {
		t.Errorf("field %d is found: %v", no, got)
	}
}

func checkMayBe(t *testing.T, what string, s api.Schema) {
	t.Helper()
	if err, at := schema.Check(s); err != api.OK || at != 0 {
		t.Errorf("%s: %d at %d", what, err, at)
	}
}

// P14.1: Acquirer, Issuer

func TestStyleAndVersion(t *testing.T) {
	if s := Acquirer(); s.Style != api.SAscii || s.Version != 0 {
		t.Errorf("the acquirer's: style %d, version %d", s.Style, s.Version)
	}
	if s := Issuer(); s.Style != api.SBinary || s.Version != 1 {
		t.Errorf("the issuer's: style %d, version %d", s.Style, s.Version)
	}
}

func TestEachNumber(t *testing.T) {
	for _, one := range both {
		s, want := one.get(), wanted(t, one.column)
		found := 0
		for no := 0; no <= 130; no++ {
			at := slices.Index(numbersOf(want), no)
			if at < 0 {
				checkNone(t, s, no)
				continue
			}
			checkSpec(t, s, want[at])
			found++
		}
		if found != one.count {
			t.Errorf("%s: %d fields found", one.name, found)
		}
		for _, no := range far {
			checkNone(t, s, no)
		}
	}
}

func TestTheWholeListByItsOrder(t *testing.T) {
	checkDialects(t, "nothing")
}

func TestFieldsThatOneOfBothLacks(t *testing.T) {
	for _, no := range []int{13, 18, 90} {
		checkNone(t, Issuer(), no)
	}
	checkNone(t, Acquirer(), 26)
	four := api.Spec{Class: api.CDigits, Form: api.FFixed, Min: 4, Max: 4}
	for _, no := range []int{13, 18} {
		four.No = no
		checkSpec(t, Acquirer(), four)
	}
	checkSpec(t, Acquirer(), api.Spec{No: 90, Class: api.CDigits, Form: api.FFixed, Min: 42, Max: 42})
	four.No = 26
	checkSpec(t, Issuer(), four)
}

func TestFieldsThatDiffer(t *testing.T) {
	// The chapter's example first.
	checkSpec(t, Issuer(), api.Spec{No: 22, Class: api.CAlnum, Form: api.FFixed, Min: 12, Max: 12})
	checkSpec(t, Acquirer(), api.Spec{No: 22, Class: api.CDigits, Form: api.FFixed, Min: 3, Max: 3})
	checkSpec(t, Acquirer(), api.Spec{No: 12, Class: api.CDigits, Form: api.FFixed, Min: 6, Max: 6})
	checkSpec(t, Issuer(), api.Spec{No: 12, Class: api.CDigits, Form: api.FFixed, Min: 12, Max: 12})
	checkSpec(t, Acquirer(), api.Spec{No: api.Action, Class: api.CAlnum, Form: api.FFixed, Min: 2, Max: 2})
	checkSpec(t, Issuer(), api.Spec{No: api.Action, Class: api.CDigits, Form: api.FFixed, Min: 3, Max: 3})
	checkSpec(t, Acquirer(), api.Spec{No: 43, Class: api.CPrint, Form: api.FFixed, Min: 40, Max: 40})
	checkSpec(t, Issuer(), api.Spec{No: 43, Class: api.CPrint, Form: api.FTwo, Min: 1, Max: 99})
	for no := 2; no <= api.MaxField; no++ {
		x, inOne := schema.Find(Acquirer(), no)
		y, inOther := schema.Find(Issuer(), no)
		if inOne && inOther && (x == y) == slices.Contains([]int{12, 22, 39, 43}, no) {
			t.Errorf("field %d: %v and %v", no, x, y)
		}
	}
}

func TestHowManyByRisingNumbers(t *testing.T) {
	for _, one := range both {
		s := one.get()
		if len(s.Fields) != one.count {
			t.Errorf("%s: %d fields; want %d", one.name, len(s.Fields), one.count)
		}
		for at := 1; at < len(s.Fields); at++ {
			if s.Fields[at].No <= s.Fields[at-1].No {
				t.Errorf("%s: field %d behind field %d", one.name, s.Fields[at].No, s.Fields[at-1].No)
			}
		}
		if schema.Set(s) != fields.Of(numbersOf(wanted(t, one.column))...) {
			t.Errorf("%s: the set of %v", one.name, numbersOf(s.Fields))
		}
	}
}

// P14.1: Lossless

func TestLosslessOfEachNumber(t *testing.T) {
	set := Lossless()
	for no := 0; no <= 130; no++ {
		if want := slices.Contains(kept, no); set.Has(no) != want {
			t.Errorf("%d: %v", no, !want)
		}
	}
	for _, no := range far {
		if set.Has(no) {
			t.Errorf("%d is in it", no)
		}
	}
	if set.Len() != 21 {
		t.Errorf("%d numbers; want 21", set.Len())
	}
	if set != fields.Of(kept...) || Lossless() != set {
		t.Error("the set is another one")
	}
	var walked []int
	for no := set.Next(0); no != 0; no = set.Next(no) {
		walked = append(walked, no)
	}
	if !slices.Equal(walked, kept) {
		t.Errorf("by Next %v; want %v", walked, kept)
	}
}

// P14.2: both may be

func TestBothMayBe(t *testing.T) {
	for _, one := range both {
		checkMayBe(t, one.name, one.get())
	}
	if schema.Same(Acquirer(), Issuer()) {
		t.Error("both are the same")
	}
}

// checkRestricted: may a dialect be with some fields alone, and has it these then?
func checkRestricted(t *testing.T, name string, s api.Schema, keep fields.Set) {
	t.Helper()
	r := schema.Restrict(s, keep)
	checkMayBe(t, name, r)
	if r.Style != s.Style || r.Version != s.Version || schema.Set(r) != schema.Set(s).Both(keep) {
		t.Errorf("%s: restricted to %v", name, r)
	}
	for _, one := range r.Fields {
		checkSpec(t, s, one)
	}
}

func TestRestrictedOnesMayBe(t *testing.T) {
	for _, one := range both {
		s := one.get()
		all := schema.Set(s)
		for _, keep := range []fields.Set{{}, all, fields.Bits(math.MaxUint64, math.MaxUint64), Lossless(), fields.Of(1, 5, 127), fields.Of(2, 128), fields.Of(13, 18, 26, 90)} {
			checkRestricted(t, one.name, s, keep)
		}
		for no := 1; no <= api.MaxField; no++ {
			checkRestricted(t, one.name, s, fields.Of(no))
			checkRestricted(t, one.name, s, all.Without(no))
			checkRestricted(t, one.name, s, fields.Of(2, no, 64, 65, 102))
		}
		if !schema.Same(schema.Restrict(s, all), s) {
			t.Errorf("%s, restricted to all, is another one", one.name)
		}
		if r := schema.Restrict(s, fields.Set{}); len(r.Fields) != 0 {
			t.Errorf("%s, restricted to none: %v", one.name, r)
		}
	}
}

// P14.2: the fields of Lossless

func TestLosslessFieldsOfBoth(t *testing.T) {
	set, seen := Lossless(), 0
	for no := set.Next(0); no != 0; no = set.Next(no) {
		x, inOne := schema.Find(Acquirer(), no)
		y, inOther := schema.Find(Issuer(), no)
		if !inOne || !inOther {
			t.Errorf("field %d: in the acquirer's %v, in the issuer's %v", no, inOne, inOther)
		}
		if x.Class != y.Class {
			t.Errorf("field %d: classes %d and %d", no, x.Class, y.Class)
		}
		if same := x.Min == y.Min && x.Max == y.Max; same != (no != 12) {
			t.Errorf("field %d: %d to %d, and %d to %d", no, x.Min, x.Max, y.Min, y.Max)
		}
		seen++
	}
	if seen != len(kept) {
		t.Errorf("%d fields; want %d", seen, len(kept))
	}
	if shared := schema.Set(Acquirer()).Both(schema.Set(Issuer())); shared.Both(set) != set {
		t.Error("a field of Lossless isn't in both")
	}
}

// P14.2: what is answered is new each time

// writes: what may be written into a list of specs.
var writes = []struct {
	name  string
	write func(list []api.Spec)
}{
	{"the first place", func(list []api.Spec) { list[0] = api.Spec{No: 99, Max: -1} }},
	{"the middle", func(list []api.Spec) { list[len(list)/2].Class = api.CLetters }},
	{"the last place", func(list []api.Spec) { list[len(list)-1].Max++ }},
	{"each place", func(list []api.Spec) { clear(list) }},
	{"the order", func(list []api.Spec) { slices.Reverse(list) }},
	{"less by one", func(list []api.Spec) { _ = slices.Delete(list, 3, 4) }},
	{"what is appended", func(list []api.Spec) {
		list = append(list, api.Spec{No: 1000})
		list[0].No = 1001
	}},
	{"what is appended to a part", func(list []api.Spec) { _ = append(list[:5], api.Spec{No: 1002}, api.Spec{No: 1003}) }},
	{"all there is room for", func(list []api.Spec) {
		room := list[:cap(list)]
		for at := range room {
			room[at] = api.Spec{No: -at, Class: 77, Form: 77, Min: 77, Max: 77}
		}
	}},
}

func TestWhatIsAnsweredIsNew(t *testing.T) {
	for _, one := range both {
		for _, change := range writes {
			behind := change.name + " of " + one.name
			earlier := one.get()
			s := one.get()
			change.write(s.Fields)
			s.Style, s.Version = 9, 9
			checkDialects(t, behind)
			if !slices.Equal(earlier.Fields, wanted(t, one.column)) {
				t.Errorf("%s: an earlier answer became %v", behind, earlier)
			}
			if Lossless() != fields.Of(kept...) {
				t.Errorf("%s: Lossless is another set", behind)
			}
		}
	}
}

func TestEachPlaceIsNew(t *testing.T) {
	for _, one := range both {
		first := one.get()
		for at := range first.Fields {
			for n := range 5 {
				s := one.get()
				spec := &s.Fields[at]
				*[]*int{&spec.No, &spec.Class, &spec.Form, &spec.Min, &spec.Max}[n] = -1
			}
			if &first.Fields[at] == &one.get().Fields[at] {
				t.Errorf("%s: place %d is the same memory", one.name, at)
			}
		}
	}
	checkDialects(t, "each number of each place")
}

func TestLosslessIsNew(t *testing.T) {
	set := Lossless()
	set = set.With(13).Without(2)
	if set == Lossless() || Lossless() != fields.Of(kept...) {
		t.Error("Lossless is another set")
	}
}

// By layer 12 the specs say the bytes of the whole's examples.

func TestFieldsAsBytes(t *testing.T) {
	for _, one := range []struct {
		no           int
		text         string
		ascii, bytes string
	}{
		{2, "4111111111111111", "164111111111111111", "\x16\x41\x11\x11\x11\x11\x11\x11\x11"},
		{11, "000001", "000001", "\x00\x00\x01"},
		{70, "301", "301", "\x03\x01"},
		{55, "\x82\x01\x61", "003820161", "\x00\x03\x82\x01\x61"},
		{52, "\x00\x01\x02\x03\xfc\xfd\xfe\xff", "00010203FCFDFEFF", "\x00\x01\x02\x03\xfc\xfd\xfe\xff"},
		{41, "TERM 001", "TERM 001", "TERM 001"},
	} {
		for at, want := range []string{one.ascii, one.bytes} {
			s := both[at].get()
			found, _ := schema.Find(s, one.no)
			if got, err := cell.Put(s.Style, found, one.text); got != want || err != api.OK {
				t.Errorf("%s, field %d: %q, %d; want %q", both[at].name, one.no, got, err, want)
			}
		}
	}
}
