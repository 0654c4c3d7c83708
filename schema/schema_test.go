package schema

import (
	"math"
	"slices"
	"testing"

	"groat/api"
	"groat/fields"
	"groat/spec"
)

var (
	styles     = []int{api.SAscii, api.SBinary}
	noStyles   = []int{math.MinInt, -2, -1, 0, 3, 4, 1 << 32, 1<<32 + 1, 1<<32 + 2, math.MaxInt}
	noVersions = []int{math.MinInt, -10, -1, 10, 11, 48, 57, 256, 1 << 32, 1<<32 + 1, math.MaxInt}
	// noFields: numbers that no field has; of these 1 may be in a set.
	noFields = []int{math.MinInt, -128, -2, -1, 0, 1, 129, 130, 192, 256, 1<<32 + 2, math.MaxInt}
)

// refused: for each error of layer 11 what makes it of a right spec.
var refused = []struct {
	want  api.Errno
	spoil func(s *api.Spec)
}{
	{api.ErrArg, func(s *api.Spec) { s.No = 1 }},
	{api.ErrArg, func(s *api.Spec) { s.No = 129 }},
	{api.ErrArg, func(s *api.Spec) { s.No = -s.No }},
	{api.ErrArg, func(s *api.Spec) { *s = api.Spec{} }},
	{api.ErrClass, func(s *api.Spec) { s.Class = 0 }},
	{api.ErrClass, func(s *api.Spec) { s.Class = 7 }},
	{api.ErrForm, func(s *api.Spec) { s.Form = 0 }},
	{api.ErrForm, func(s *api.Spec) { s.Form = 4 }},
	{api.ErrRange, func(s *api.Spec) { s.Min = 0 }},
	{api.ErrRange, func(s *api.Spec) { s.Max = 1000 }},
	{api.ErrRange, func(s *api.Spec) { s.Form, s.Min, s.Max = api.FTwo, 1, 100 }},
	{api.ErrRange, func(s *api.Spec) { s.Form, s.Min, s.Max = api.FFixed, 4, 5 }},
	{api.ErrRange, func(s *api.Spec) { s.Min, s.Max = 5, 4 }},
	{api.ErrTag, func(s *api.Spec) { s.Class, s.Form, s.Min, s.Max = api.CTlv, api.FFixed, 5, 5 }},
}

// simple: a right spec of a field, by which it is told from those of others.
func simple(no int) api.Spec {
	return api.Spec{No: no, Class: api.CAlnum, Form: api.FThree, Min: 1, Max: 100 + no%800}
}

// specs: right ones but for the numbers.
func specs(nos ...int) []api.Spec {
	var list []api.Spec
	for _, no := range nos {
		list = append(list, simple(no))
	}
	return list
}

// of: a schema of such specs.
func of(nos ...int) api.Schema {
	return api.Schema{Style: api.SAscii, Fields: specs(nos...)}
}

// numbers: from the one to the other.
func numbers(from, to int) []int {
	var list []int
	for no := from; no <= to; no++ {
		list = append(list, no)
	}
	return list
}

// mixed: a schema of each class and each form.
func mixed(style, version int) api.Schema {
	return api.Schema{Style: style, Version: version, Fields: []api.Spec{
		{No: 2, Class: api.CDigits, Form: api.FTwo, Min: 12, Max: 19},
		{No: 11, Class: api.CDigits, Form: api.FFixed, Min: 6, Max: 6},
		{No: 37, Class: api.CAlnum, Form: api.FFixed, Min: 12, Max: 12},
		{No: 48, Class: api.CPrint, Form: api.FThree, Min: 1, Max: 999},
		{No: 49, Class: api.CLetters, Form: api.FFixed, Min: 3, Max: 3},
		{No: 55, Class: api.CTlv, Form: api.FThree, Min: 1, Max: 255},
		{No: 128, Class: api.CBytes, Form: api.FFixed, Min: 8, Max: 8},
	}}
}

// odd: a schema that may not be, with numbers that no field has, some of them twice.
func odd() api.Schema {
	s := of(70, 0, 3, -5, 1, 3, 129, 128, math.MaxInt, 2, 70, math.MinInt, 0)
	s.Style, s.Version = -7, 1<<40
	for at := range s.Fields {
		s.Fields[at].Class = at
	}
	return s
}

func twin(s api.Schema) api.Schema {
	return api.Schema{Style: s.Style, Version: s.Version, Fields: slices.Clone(s.Fields)}
}

// alike: by another way than the program's.
func alike(a, b api.Schema) bool {
	if a.Style != b.Style || a.Version != b.Version || len(a.Fields) != len(b.Fields) {
		return false
	}
	for at, x := range a.Fields {
		y := b.Fields[at]
		if x.No != y.No || x.Class != y.Class || x.Form != y.Form || x.Min != y.Min || x.Max != y.Max {
			return false
		}
	}
	return true
}

func checkCheck(t *testing.T, s api.Schema, want api.Errno, place int) {
	t.Helper()
	if err, at := Check(s); err != want || at != place {
		t.Errorf("Check(%v): %d, %d; want %d, %d", s, err, at, want, place)
	}
}

func checkFind(t *testing.T, s api.Schema, no int, want api.Spec, there bool) {
	t.Helper()
	if got, ok := Find(s, no); got != want || ok != there {
		t.Errorf("Find(%v, %d): %v, %v; want %v, %v", s, no, got, ok, want, there)
	}
}

func checkSet(t *testing.T, s api.Schema, nos ...int) {
	t.Helper()
	got := Set(s)
	for n := -3; n <= 260; n++ {
		if got.Has(n) != slices.Contains(nos, n) {
			t.Errorf("Set(%v): of %d: %v", s, n, got.Has(n))
		}
	}
	if got.Len() != len(nos) {
		t.Errorf("Set(%v): %d numbers; want %v", s, got.Len(), nos)
	}
}

func checkRestrict(t *testing.T, s api.Schema, keep fields.Set, want ...api.Spec) {
	t.Helper()
	got := Restrict(s, keep)
	if !alike(got, api.Schema{Style: s.Style, Version: s.Version, Fields: want}) {
		high, low := keep.Halves()
		t.Errorf("Restrict(%v, %X %X): %v; want the fields %v", s, high, low, got, want)
	}
}

func checkSame(t *testing.T, a, b api.Schema, want bool) {
	t.Helper()
	if got := Same(a, b); got != want {
		t.Errorf("Same(%v, %v): %v", a, b, got)
	}
	if got := Same(b, a); got != want {
		t.Errorf("Same(%v, %v): %v", b, a, got)
	}
}

// P13.1

func TestCheckOfTheChaptersExamples(t *testing.T) {
	for _, style := range styles {
		s := of(2, 4, 3)
		s.Style = style
		checkCheck(t, s, api.ErrOrder, 2)
		s = of(2, 3, 4)
		s.Style = style
		checkCheck(t, s, api.OK, 0)
		s.Version = 10
		checkCheck(t, s, api.ErrMti, -1)
	}
}

func TestCheckOfOrdinarySchemas(t *testing.T) {
	for _, style := range styles {
		for version := range 10 {
			checkCheck(t, mixed(style, version), api.OK, 0)
			checkCheck(t, api.Schema{Style: style, Version: version}, api.OK, 0)
			checkCheck(t, api.Schema{Style: style, Version: version, Fields: []api.Spec{}}, api.OK, 0)
			checkCheck(t, api.Schema{Style: style, Version: version, Fields: specs(numbers(2, 128)...)}, api.OK, 0)
			for no := 2; no <= 128; no++ {
				checkCheck(t, api.Schema{Style: style, Version: version, Fields: specs(no)}, api.OK, 0)
			}
		}
	}
}

func TestCheckOfStylesAndVersions(t *testing.T) {
	for _, list := range [][]api.Spec{nil, specs(2), specs(2, 3, 4), specs(3, 2), specs(0)} {
		for _, style := range noStyles {
			for _, version := range append([]int{0, 5, 9}, noVersions...) {
				checkCheck(t, api.Schema{Style: style, Version: version, Fields: list}, api.ErrArg, -1)
			}
		}
		for _, style := range styles {
			for _, version := range noVersions {
				checkCheck(t, api.Schema{Style: style, Version: version, Fields: list}, api.ErrMti, -1)
			}
		}
	}
	checkCheck(t, api.Schema{}, api.ErrArg, -1)
}

func TestCheckOfSpecsThatMayNotStand(t *testing.T) {
	for _, style := range styles {
		for _, wrong := range refused {
			for count := 1; count <= 5; count++ {
				for place := range count {
					s := api.Schema{Style: style, Version: 1, Fields: specs(numbers(20, 19+count)...)}
					wrong.spoil(&s.Fields[place])
					checkCheck(t, s, wrong.want, place)
				}
			}
			for _, place := range []int{0, 1, 63, 125, 126} {
				s := api.Schema{Style: style, Version: 9, Fields: specs(numbers(2, 128)...)}
				wrong.spoil(&s.Fields[place])
				checkCheck(t, s, wrong.want, place)
			}
		}
		for _, no := range noFields {
			checkCheck(t, api.Schema{Style: style, Fields: specs(no)}, api.ErrArg, 0)
			checkCheck(t, api.Schema{Style: style, Fields: specs(2, no, 3)}, api.ErrArg, 1)
			checkCheck(t, api.Schema{Style: style, Fields: specs(2, 3, no)}, api.ErrArg, 2)
		}
	}
}

func TestCheckOfTheOrder(t *testing.T) {
	for _, x := range []struct {
		nos   []int
		place int
	}{
		{[]int{2, 2}, 1}, {[]int{3, 2}, 1}, {[]int{128, 2}, 1}, {[]int{128, 128}, 1}, {[]int{128, 127}, 1}, {[]int{65, 64}, 1}, {[]int{64, 64}, 1},
		{[]int{2, 2, 3}, 1}, {[]int{2, 3, 3}, 2}, {[]int{2, 3, 2}, 2}, {[]int{2, 4, 3}, 2}, {[]int{3, 4, 2}, 2}, {[]int{5, 2, 6}, 1}, {[]int{4, 3, 2}, 1},
		{[]int{2, 3, 4, 5, 4}, 4}, {[]int{2, 3, 4, 5, 2}, 4}, {[]int{2, 3, 4, 5, 3, 4, 5}, 4}, {[]int{9, 8, 7, 6}, 1}, {[]int{2, 64, 65, 65, 128}, 3},
		{append(numbers(2, 128), 128), 127}, {append(numbers(2, 128), 2), 127}, {append(numbers(2, 128), 65), 127}, {append([]int{3}, numbers(2, 128)...), 1}, {append([]int{2}, numbers(2, 128)...), 1},
	} {
		for _, style := range styles {
			checkCheck(t, api.Schema{Style: style, Version: 3, Fields: specs(x.nos...)}, api.ErrOrder, x.place)
		}
	}
}

func TestCheckOfNumbersTwiceWithSpecsThatDiffer(t *testing.T) {
	s := of(2, 3, 4)
	s.Fields[2] = api.Spec{No: 3, Class: api.CBytes, Form: api.FFixed, Min: 8, Max: 8}
	checkCheck(t, s, api.ErrOrder, 2)
	s.Fields[2].No = 2
	checkCheck(t, s, api.ErrOrder, 2)
}

func TestCheckOfTwoNumbersEach(t *testing.T) {
	for a := 2; a <= 128; a++ {
		for b := 2; b <= 128; b++ {
			if a < b {
				checkCheck(t, of(a, b), api.OK, 0)
			} else {
				checkCheck(t, of(a, b), api.ErrOrder, 1)
			}
		}
	}
}

func TestCheckTellsTheFirstFault(t *testing.T) {
	// Of one spec: layer 11's errors ahead of the order's.
	for _, wrong := range refused {
		for _, nos := range [][]int{{5, 5}, {5, 4}, {128, 2}} {
			s := of(nos...)
			wrong.spoil(&s.Fields[1])
			checkCheck(t, s, wrong.want, 1)
		}
	}
	// Of several: the first one's, whatever it is.
	for _, first := range refused {
		for _, second := range refused {
			s := of(2, 3, 4, 5, 6)
			first.spoil(&s.Fields[1])
			second.spoil(&s.Fields[3])
			checkCheck(t, s, first.want, 1)
		}
		s := of(2, 9, 8, 10)
		first.spoil(&s.Fields[3])
		checkCheck(t, s, api.ErrOrder, 2)
		s = of(2, 9, 8, 7)
		first.spoil(&s.Fields[1])
		checkCheck(t, s, first.want, 1)
		// Of the schema: its style and its version ahead of all specs.
		s.Version = -1
		checkCheck(t, s, api.ErrMti, -1)
		s.Style = 3
		checkCheck(t, s, api.ErrArg, -1)
		s.Version = 0
		checkCheck(t, s, api.ErrArg, -1)
	}
	checkCheck(t, of(2, 3, 3, 2, 2), api.ErrOrder, 2)
}

// eachList: all lists of at most so many of these.
func eachList(pool []api.Spec, most int, do func(list []api.Spec)) {
	var grow func(list []api.Spec)
	grow = func(list []api.Spec) {
		do(list)
		if len(list) < most {
			for _, one := range pool {
				grow(append(slices.Clip(list), one))
			}
		}
	}
	grow(nil)
}

// fewSpecs: right ones and such as may not stand.
func fewSpecs() []api.Spec {
	pool := specs(2, 3, 64, 65, 128, 1, 0, 129, -1)
	other := simple(3)
	other.Class = api.CDigits
	noClass, noForm, noRange, noTag := simple(3), simple(4), simple(65), simple(66)
	noClass.Class, noForm.Form, noRange.Min = 9, 0, 900
	noTag.Class, noTag.Form, noTag.Min = api.CTlv, api.FFixed, noTag.Max
	return append(pool, other, noClass, noForm, noRange, noTag)
}

// wantCheck: which is the first fault, by looking at all of them.
func wantCheck(s api.Schema) (api.Errno, int) {
	if !slices.Contains(styles, s.Style) {
		return api.ErrArg, -1
	}
	if !slices.Contains(numbers(0, 9), s.Version) {
		return api.ErrMti, -1
	}
	err, place := api.OK, 0
	for at := len(s.Fields) - 1; at >= 0; at-- {
		if at > 0 && s.Fields[at].No <= s.Fields[at-1].No {
			err, place = api.ErrOrder, at
		}
		if e := spec.Check(s.Fields[at]); e != api.OK {
			err, place = e, at
		}
	}
	return err, place
}

func TestCheckOfAllShortLists(t *testing.T) {
	right := 0
	eachList(fewSpecs(), 4, func(list []api.Spec) {
		s := api.Schema{Style: 1 + len(list)%2, Version: 9, Fields: list}
		want, place := wantCheck(s)
		if want == api.OK {
			right++
		}
		checkCheck(t, s, want, place)
	})
	if right < 40 {
		t.Errorf("%d right ones", right)
	}
	eachList(fewSpecs(), 1, func(list []api.Spec) {
		for style := -2; style <= 5; style++ {
			for version := -3; version <= 13; version++ {
				s := api.Schema{Style: style, Version: version, Fields: list}
				want, place := wantCheck(s)
				checkCheck(t, s, want, place)
			}
		}
	})
}

// P13.2: Find

func TestFindOfOrdinarySchemas(t *testing.T) {
	s := mixed(api.SBinary, 1)
	for no := -3; no <= 260; no++ {
		at := slices.Index([]int{2, 11, 37, 48, 49, 55, 128}, no)
		if at < 0 {
			checkFind(t, s, no, api.Spec{}, false)
		} else {
			checkFind(t, s, no, s.Fields[at], true)
		}
	}
	all := of(numbers(2, 128)...)
	for no := 2; no <= 128; no++ {
		checkFind(t, all, no, simple(no), true)
		checkFind(t, of(no), no, simple(no), true)
		checkFind(t, of(no), no+1, api.Spec{}, false)
	}
	for _, no := range noFields {
		checkFind(t, all, no, api.Spec{}, false)
		checkFind(t, s, no, api.Spec{}, false)
		checkFind(t, api.Schema{}, no, api.Spec{}, false)
	}
	checkFind(t, api.Schema{Style: 1, Fields: []api.Spec{}}, 2, api.Spec{}, false)
}

func TestFindTellsTheFirst(t *testing.T) {
	s := of(7, 2, 9, 2, 2, 9)
	for at := range s.Fields {
		s.Fields[at].Max = at
	}
	checkFind(t, s, 7, s.Fields[0], true)
	checkFind(t, s, 2, s.Fields[1], true)
	checkFind(t, s, 9, s.Fields[2], true)
	checkFind(t, s, 3, api.Spec{}, false)
}

func TestFindOfSchemasThatMayNotBe(t *testing.T) {
	s := odd()
	for at, no := range []int{70, 0, 3, -5, 1} {
		checkFind(t, s, no, s.Fields[at], true)
	}
	for at, no := range map[int]int{6: 129, 7: 128, 8: math.MaxInt, 9: 2, 11: math.MinInt} {
		checkFind(t, s, no, s.Fields[at], true)
	}
	for _, no := range []int{4, -1, 130, 5, 71, math.MaxInt - 1} {
		checkFind(t, s, no, api.Spec{}, false)
	}
	// A spec that is the zero one is there all the same.
	checkFind(t, api.Schema{Fields: []api.Spec{{}}}, 0, api.Spec{}, true)
}

// P13.2: Set

func TestSetOfOrdinarySchemas(t *testing.T) {
	checkSet(t, api.Schema{})
	checkSet(t, api.Schema{Style: 2, Version: 1, Fields: []api.Spec{}})
	checkSet(t, mixed(api.SAscii, 0), 2, 11, 37, 48, 49, 55, 128)
	checkSet(t, of(numbers(2, 128)...), numbers(2, 128)...)
	for no := 2; no <= 128; no++ {
		checkSet(t, of(no), no)
	}
}

func TestSetOfSchemasThatMayNotBe(t *testing.T) {
	checkSet(t, odd(), 1, 2, 3, 70, 128)
	checkSet(t, of(noFields...), 1)
	checkSet(t, of(5, 4, 5, 4, 3), 3, 4, 5)
	checkSet(t, of(0, 129, -1))
	checkSet(t, of(slices.Concat(numbers(-200, 400), numbers(-3, 9))...), numbers(1, 128)...)
}

func TestSetsMayBeCompared(t *testing.T) {
	if Set(of(4, 3, 3, 0)) != fields.Of(3, 4) || Set(of(3, 4)) == fields.Of(3) {
		t.Error("the sets of 3 and 4")
	}
	if Set(api.Schema{}) != (fields.Set{}) {
		t.Error("the set of no specs")
	}
}

// P13.2: Restrict

func TestRestrictOfOrdinarySchemas(t *testing.T) {
	for _, style := range styles {
		s := mixed(style, 7)
		checkRestrict(t, s, fields.Set{})
		checkRestrict(t, s, Set(s), s.Fields...)
		checkRestrict(t, s, fields.Bits(math.MaxUint64, math.MaxUint64), s.Fields...)
		checkRestrict(t, s, fields.Of(2), s.Fields[0])
		checkRestrict(t, s, fields.Of(128), s.Fields[6])
		checkRestrict(t, s, fields.Of(128, 2, 48), s.Fields[0], s.Fields[3], s.Fields[6])
		checkRestrict(t, s, fields.Of(11, 12, 13, 49), s.Fields[1], s.Fields[4])
		checkRestrict(t, s, fields.Of(1, 3, 12, 127))
		for at, one := range s.Fields {
			checkRestrict(t, s, fields.Of(one.No), one)
			checkRestrict(t, s, Set(s).Without(one.No), slices.Delete(slices.Clone(s.Fields), at, at+1)...)
		}
		checkRestrict(t, api.Schema{Style: style, Version: 4}, fields.Of(2, 3))
	}
}

func TestRestrictOfSchemasThatMayNotBe(t *testing.T) {
	s := odd()
	pick := func(places ...int) []api.Spec {
		var list []api.Spec
		for _, at := range places {
			list = append(list, s.Fields[at])
		}
		return list
	}
	checkRestrict(t, s, fields.Set{})
	checkRestrict(t, s, fields.Bits(math.MaxUint64, math.MaxUint64), pick(0, 2, 4, 5, 7, 9, 10)...)
	checkRestrict(t, s, fields.Of(70), pick(0, 10)...)
	checkRestrict(t, s, fields.Of(1, 2, 3), pick(2, 4, 5, 9)...)
	checkRestrict(t, s, fields.Of(128, 70, 69), pick(0, 7, 10)...)
	checkRestrict(t, s, fields.Of(4, 127))
	checkRestrict(t, of(0, 129, -1, 130), fields.Bits(math.MaxUint64, math.MaxUint64))
	checkRestrict(t, of(9, 4, 7, 2), fields.Of(2, 4, 9), specs(9, 4, 2)...)
}

func TestRestrictToEachSet(t *testing.T) {
	nos := []int{2, 63, 64, 65, 66, 127, 128}
	for bits := range 1 << len(nos) {
		var keep []int
		for at, no := range nos {
			if bits>>at&1 == 1 {
				keep = append(keep, no)
			}
		}
		checkRestrict(t, of(nos...), fields.Of(keep...), specs(keep...)...)
		checkRestrict(t, of(nos...), fields.Of(keep...).With(1).With(3).With(126), specs(keep...)...)
	}
}

func TestRestrictedSchemasMayBe(t *testing.T) {
	all := of(numbers(2, 128)...)
	for step := 1; step <= 128; step++ {
		var keep fields.Set
		for no := step; no <= 128; no += step {
			keep = keep.With(no)
		}
		r := Restrict(all, keep)
		checkCheck(t, r, api.OK, 0)
		if Set(r) != keep.Without(1) {
			t.Errorf("restricted to each %dth: %v", step, r)
		}
		checkSame(t, Restrict(r, keep), r, true)
	}
}

// P13.2: Same

// changes: each makes another schema of one with at least two specs that differ.
var changes = []func(s *api.Schema){
	func(s *api.Schema) { s.Style++ },
	func(s *api.Schema) { s.Style = 3 - s.Style },
	func(s *api.Schema) { s.Version++ },
	func(s *api.Schema) { s.Version = -s.Version - 1 },
	func(s *api.Schema) { s.Fields = nil },
	func(s *api.Schema) { s.Fields = s.Fields[1:] },
	func(s *api.Schema) { s.Fields = s.Fields[:len(s.Fields)-1] },
	func(s *api.Schema) { s.Fields = append(s.Fields, s.Fields[0]) },
	func(s *api.Schema) { s.Fields = append(s.Fields, api.Spec{}) },
	func(s *api.Schema) { s.Fields = slices.Insert(s.Fields, 1, s.Fields[0]) },
	func(s *api.Schema) { s.Fields[0], s.Fields[1] = s.Fields[1], s.Fields[0] },
	func(s *api.Schema) { slices.Reverse(s.Fields) },
}

// numbersOf: a spec's, each of which may be changed.
func numbersOf(s *api.Spec) []*int { return []*int{&s.No, &s.Class, &s.Form, &s.Min, &s.Max} }

func TestSameOfTheSame(t *testing.T) {
	for _, s := range []api.Schema{{}, mixed(1, 0), mixed(2, 1), of(2), of(numbers(2, 128)...), of(3, 2, 3), of(0, 129, -1), odd(), {Style: 9, Version: -4}} {
		checkSame(t, s, s, true)
		checkSame(t, s, twin(s), true)
	}
	checkSame(t, api.Schema{Style: 1, Fields: []api.Spec{}}, api.Schema{Style: 1}, true)
}

func TestSameOfOthers(t *testing.T) {
	for _, s := range []api.Schema{mixed(1, 0), mixed(2, 9), of(2, 3), of(numbers(2, 128)...), of(0, 129, -1), odd()} {
		for n, change := range changes {
			other := twin(s)
			change(&other)
			if alike(s, other) {
				t.Fatalf("change %d of %v changes nothing", n, s)
			}
			checkSame(t, s, other, false)
		}
		for at := range s.Fields {
			for n := range numbersOf(&s.Fields[at]) {
				for _, by := range []int{1, -1, 1 << 8, 1 << 32, math.MinInt} {
					other := twin(s)
					*numbersOf(&other.Fields[at])[n] += by
					checkSame(t, s, other, false)
				}
			}
		}
	}
	checkSame(t, api.Schema{Style: 1}, api.Schema{Style: 2}, false)
	checkSame(t, api.Schema{Version: 1}, api.Schema{}, false)
	checkSame(t, api.Schema{}, api.Schema{Fields: []api.Spec{{}}}, false)
	checkSame(t, of(2, 2, 3), of(2, 3, 3), false)
	checkSame(t, of(0), of(129), false)
}

func TestSameOfAllShortLists(t *testing.T) {
	var all []api.Schema
	eachList(fewSpecs(), 2, func(list []api.Spec) {
		all = append(all, api.Schema{Style: 1, Fields: slices.Clone(list)})
	})
	for at, a := range all {
		for other, b := range all {
			checkSame(t, a, twin(b), at == other)
		}
	}
}

// The rules that hold everywhere

func TestWhatIsHandedInStays(t *testing.T) {
	for _, s := range []api.Schema{mixed(1, 0), of(9, 4, 7, 2), odd(), of(2, 3, 3)} {
		// Spare room behind the list, too.
		room := append(slices.Clone(s.Fields), specs(90, 91, 92)...)
		whole := slices.Clone(room)
		handed := api.Schema{Style: s.Style, Version: s.Version, Fields: room[:len(s.Fields)]}
		Check(handed)
		Find(handed, 2)
		Set(handed)
		Same(handed, s)
		Same(s, handed)
		for _, keep := range []fields.Set{{}, Set(s), fields.Of(2, 4, 7), fields.Of(128)} {
			r := Restrict(handed, keep)
			for at := range r.Fields {
				r.Fields[at] = api.Spec{No: -1}
			}
			r.Fields = append(r.Fields, api.Spec{No: -2}, api.Spec{No: -3})
		}
		if !slices.Equal(room, whole) || !alike(handed, s) {
			t.Errorf("%v became %v, %v", s, handed, room)
		}
	}
}

func TestWhatIsAnsweredStays(t *testing.T) {
	s := mixed(1, 0)
	r := Restrict(s, Set(s))
	again := Restrict(s, Set(s))
	found, _ := Find(s, 11)
	for at := range s.Fields {
		s.Fields[at] = api.Spec{}
	}
	again.Fields[0].Max = 13
	if !alike(r, mixed(1, 0)) {
		t.Errorf("what was answered became %v", r)
	}
	if found != mixed(1, 0).Fields[1] {
		t.Errorf("what was found became %v", found)
	}
}

func TestNothingIsKept(t *testing.T) {
	s := mixed(2, 1)
	for range 3 {
		checkCheck(t, of(2, 4, 3), api.ErrOrder, 2)
		checkCheck(t, s, api.OK, 0)
		checkFind(t, of(3), 2, api.Spec{}, false)
		checkFind(t, s, 2, s.Fields[0], true)
		checkSet(t, of(3, 4), 3, 4)
		checkSet(t, api.Schema{})
		checkRestrict(t, s, fields.Of(2), s.Fields[0])
		checkRestrict(t, s, fields.Set{})
		checkSame(t, s, of(2), false)
		checkSame(t, s, s, true)
	}
}

func TestLongListsEnd(t *testing.T) {
	const many = 1 << 18
	s := api.Schema{Style: 1, Fields: make([]api.Spec, many)}
	for at := range s.Fields {
		s.Fields[at] = simple(2 + at%200)
	}
	if err, at := Check(s); err != api.ErrArg || at != 127 {
		t.Errorf("Check: %d, %d", err, at)
	}
	if _, ok := Find(s, 1); ok {
		t.Error("Find: 1")
	}
	if Set(s) != fields.Of(numbers(2, 128)...) {
		t.Error("Set")
	}
	if r := Restrict(s, fields.Of(2)); len(r.Fields) != (many+199)/200 {
		t.Errorf("Restrict: %d", len(r.Fields))
	}
	other := twin(s)
	checkLast := func(want bool) {
		if Same(s, other) != want {
			t.Errorf("Same isn't %v", want)
		}
	}
	checkLast(true)
	other.Fields[many-1].Min++
	checkLast(false)
}
