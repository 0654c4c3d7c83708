package msg

import (
	"math"
	"slices"
	"strings"
	"testing"

	"groat/api"
	"groat/dialect"
	"groat/fields"
	"groat/schema"
)

// tagged is a list's bytes by layer 10: 9F 02 of two bytes.
const tagged = "\x9f\x02\x02\x01\x00"

// noFields: numbers that no field has; of these 1 may be in a set.
var noFields = []int{math.MinInt, -128, -2, -1, 0, 1, 129, 130, 192, 256, 1<<32 + 2, math.MaxInt}

// noMtis: texts that are no MTIs.
var noMtis = []string{"", "0", "02", "020", "02000", "020000", "02a0", "a200", "0a00", "020a", " 200", "0200 ", "0200\n", "\x000200", "-200", "+200", "0x00", "02\x000", "\xb0200", "\u06600", "0\u06600", "\uff100"}

// wrongTexts: of fields of mixed texts that may not be their values, and by which of layer 11's errors.
var wrongTexts = []struct {
	no   int
	text string
	want api.Errno
}{
	{2, "", api.ErrRange}, {2, "41111111111", api.ErrRange}, {2, strings.Repeat("4", 20), api.ErrRange}, {2, "4111a", api.ErrRange}, {2, "411111111111a", api.ErrClass},
	{11, "", api.ErrRange}, {11, "12345", api.ErrRange}, {11, "1234567", api.ErrRange}, {11, "12345x", api.ErrClass}, {11, "      ", api.ErrClass},
	{37, "", api.ErrRange}, {37, "12345678901", api.ErrRange}, {37, "12345678901 ", api.ErrClass},
	{48, "", api.ErrRange}, {48, strings.Repeat("x", 1000), api.ErrRange}, {48, "a\nb", api.ErrClass}, {48, strings.Repeat("\n", 1000), api.ErrRange},
	{49, "EU", api.ErrRange}, {49, "EUR1", api.ErrRange}, {49, "97x", api.ErrClass},
	{55, "", api.ErrRange}, {55, "\x9f", api.ErrTag}, {55, "\x5a", api.ErrTag}, {55, "\x5a\x02\x41", api.ErrTag}, {55, "\x70\x00", api.ErrTag}, {55, "\x5a\x00\x5a\x00", api.ErrTag}, {55, strings.Repeat("\x70", 256), api.ErrRange},
	{128, "", api.ErrRange}, {128, "1234567", api.ErrRange}, {128, "123456789", api.ErrRange},
}

// mixed: a schema of each class and each form.
func mixed(style, version int) api.Schema {
	return api.Schema{Style: style, Version: version, Fields: []api.Spec{
		{No: 2, Class: api.CDigits, Form: api.FTwo, Min: 12, Max: 19},
		{No: 11, Class: api.CDigits, Form: api.FFixed, Min: 6, Max: 6},
		{No: 37, Class: api.CAlnum, Form: api.FFixed, Min: 12, Max: 12},
		{No: 48, Class: api.CPrint, Form: api.FThree, Min: 1, Max: 999},
		{No: 49, Class: api.CLetters, Form: api.FFixed, Min: 3, Max: 3},
		{No: 55, Class: api.CTlv, Form: api.FThree, Min: 1, Max: 255},
		{No: 128, Class: api.CBytes, Form: api.FFixed, Min: 8, Max: 8},
	}}
}

// full: all fields of mixed, with values that may be.
func full() []api.Value {
	return []api.Value{{No: 2, Text: "4111111111111111"}, {No: 11, Text: "000001"}, {No: 37, Text: "ABCdef123456"}, {No: 48, Text: "a text, 1"}, {No: 49, Text: "EUR"}, {No: 55, Text: tagged}, {No: 128, Text: "\x00\xff\n\x80abc\x01"}}
}

// wide: a schema with all fields; each may have one byte to 999.
func wide(version int) api.Schema {
	s := api.Schema{Style: api.SAscii, Version: version}
	for no := 2; no <= 128; no++ {
		s.Fields = append(s.Fields, api.Spec{No: no, Class: api.CBytes, Form: api.FThree, Min: 1, Max: 999})
	}
	return s
}

// of: a message of version 0 with fields of these numbers, whose texts tell them apart.
func of(nos ...int) api.Message {
	m := api.Message{Mti: "0200"}
	for at, no := range nos {
		m.Fields = append(m.Fields, api.Value{No: no, Text: "text" + string(rune('a'+at%26))})
	}
	return m
}

// with: another list of fields behind the same MTI.
func with(m api.Message, list ...api.Value) api.Message {
	return api.Message{Mti: m.Mti, Fields: list}
}

// pick: those fields of a message that are at these places.
func pick(m api.Message, places ...int) []api.Value {
	var list []api.Value
	for _, at := range places {
		list = append(list, m.Fields[at])
	}
	return list
}

func twin(m api.Message) api.Message {
	return api.Message{Mti: m.Mti, Fields: slices.Clone(m.Fields)}
}

// alike: by another way than the program's.
func alike(a, b api.Message) bool {
	if a.Mti != b.Mti || len(a.Fields) != len(b.Fields) {
		return false
	}
	for at, x := range a.Fields {
		if y := b.Fields[at]; x.No != y.No || x.Text != y.Text {
			return false
		}
	}
	return true
}

func checkCheck(t *testing.T, s api.Schema, m api.Message, want api.Errno, field int) {
	t.Helper()
	if got := Check(s, m); got.Err != want || got.Field != field {
		t.Errorf("Check(%v, %#v): %d (%d); want %d (%d)", s, m, got.Err, got.Field, want, field)
	}
}

func checkGet(t *testing.T, m api.Message, no int, want string, there bool) {
	t.Helper()
	if got, ok := Get(m, no); got != want || ok != there {
		t.Errorf("Get(%#v, %d): %q, %v; want %q, %v", m, no, got, ok, want, there)
	}
}

func checkSet(t *testing.T, m api.Message, nos ...int) {
	t.Helper()
	got := Set(m)
	for n := -3; n <= 260; n++ {
		if got.Has(n) != slices.Contains(nos, n) {
			t.Errorf("Set(%#v): of %d: %v", m, n, got.Has(n))
		}
	}
	if got.Len() != len(nos) {
		t.Errorf("Set(%#v): %d numbers; want %v", m, got.Len(), nos)
	}
}

func checkWith(t *testing.T, m api.Message, no int, text string, want ...api.Value) {
	t.Helper()
	if got := With(m, no, text); !alike(got, with(m, want...)) {
		t.Errorf("With(%#v, %d, %q): %#v; want the fields %#v", m, no, text, got, want)
	}
}

func checkWithout(t *testing.T, m api.Message, no int, want ...api.Value) {
	t.Helper()
	if got := Without(m, no); !alike(got, with(m, want...)) {
		t.Errorf("Without(%#v, %d): %#v; want the fields %#v", m, no, got, want)
	}
}

func checkSame(t *testing.T, a, b api.Message, want bool) {
	t.Helper()
	if got := Same(a, b); got != want {
		t.Errorf("Same(%#v, %#v): %v", a, b, got)
	}
	if got := Same(b, a); got != want {
		t.Errorf("Same(%#v, %#v): %v", b, a, got)
	}
}

// P16.1

func TestCheckOfTheChaptersExamples(t *testing.T) {
	checkCheck(t, wide(0), of(4, 2), api.ErrOrder, 2)
	checkCheck(t, wide(0), of(2, 4), api.OK, 0)
	checkCheck(t, wide(0), api.Message{Mti: "1200"}, api.ErrMti, 0)
	checkCheck(t, wide(1), api.Message{Mti: "1200"}, api.OK, 0)
}

func TestCheckOfValidMessages(t *testing.T) {
	for _, style := range []int{api.SAscii, api.SBinary} {
		for version := range 10 {
			s := mixed(style, version)
			m := api.Message{Mti: string(rune('0'+version)) + "420"}
			checkCheck(t, s, m, api.OK, 0)
			checkCheck(t, s, with(m, []api.Value{}...), api.OK, 0)
			checkCheck(t, s, with(m, full()...), api.OK, 0)
			checkCheck(t, api.Schema{Style: style, Version: version}, m, api.OK, 0)
			for at, one := range full() {
				checkCheck(t, s, with(m, one), api.OK, 0)
				checkCheck(t, s, with(m, slices.Delete(full(), at, at+1)...), api.OK, 0)
			}
		}
	}
	checkCheck(t, wide(0), of(schemaNumbers(wide(0))...), api.OK, 0)
	// The greatest and the least values, and any MTI of the version.
	checkCheck(t, mixed(1, 0), api.Message{Mti: "0999", Fields: []api.Value{{No: 2, Text: strings.Repeat("9", 19)}, {No: 48, Text: strings.Repeat("~", 999)}}}, api.OK, 0)
	checkCheck(t, mixed(1, 0), api.Message{Mti: "0000", Fields: []api.Value{{No: 2, Text: strings.Repeat("0", 12)}, {No: 48, Text: " "}}}, api.OK, 0)
}

// schemaNumbers: the numbers of its fields.
func schemaNumbers(s api.Schema) []int {
	var nos []int
	for _, one := range s.Fields {
		nos = append(nos, one.No)
	}
	return nos
}

func TestCheckOfTheDialects(t *testing.T) {
	m := api.Message{Mti: "0800", Fields: []api.Value{{No: 11, Text: "000001"}, {No: 70, Text: "301"}}}
	checkCheck(t, dialect.Acquirer(), m, api.OK, 0)
	checkCheck(t, dialect.Issuer(), m, api.ErrMti, 0)
	m.Mti = "1804"
	checkCheck(t, dialect.Acquirer(), m, api.ErrMti, 0)
	checkCheck(t, dialect.Issuer(), with(m, m.Fields[0]), api.OK, 0)
	m.Mti, m.Fields[0].No = "0800", 26
	checkCheck(t, dialect.Acquirer(), m, api.ErrNone, 26)
}

// spoilt: schemas that may not be, one for each error of layer 13.
func spoilt() []api.Schema {
	var all []api.Schema
	for _, spoil := range []func(s *api.Schema){
		func(s *api.Schema) { *s = api.Schema{} },
		func(s *api.Schema) { s.Style = 0 },
		func(s *api.Schema) { s.Style = 3 },
		func(s *api.Schema) { s.Version = -1 },
		func(s *api.Schema) { s.Version = 10 },
		func(s *api.Schema) { s.Fields[0].No = 1 },
		func(s *api.Schema) { s.Fields[6].No = 129 },
		func(s *api.Schema) { s.Fields[6].Class = 7 },
		func(s *api.Schema) { s.Fields[3].Form = 0 },
		func(s *api.Schema) { s.Fields[3].Min = 0 },
		func(s *api.Schema) { s.Fields[3].Max = 1000 },
		func(s *api.Schema) { s.Fields[5].Form, s.Fields[5].Min = api.FFixed, 255 },
		func(s *api.Schema) { s.Fields[6].No = 55 },
		func(s *api.Schema) { s.Fields[0], s.Fields[1] = s.Fields[1], s.Fields[0] },
		func(s *api.Schema) { s.Fields = append(s.Fields, s.Fields[0]) },
	} {
		s := mixed(api.SBinary, 0)
		spoil(&s)
		all = append(all, s)
	}
	return all
}

func TestCheckOfSchemasThatMayNotBe(t *testing.T) {
	for _, s := range spoilt() {
		if err, _ := schema.Check(s); err == api.OK {
			t.Fatalf("%v may be", s)
		}
		// Ahead of all else: of valid messages, of wrong MTIs, of each wrong field.
		for _, mti := range append([]string{"0200", "1200", "9999"}, noMtis...) {
			for _, list := range [][]api.Value{nil, full(), {{No: 4, Text: "4"}, {No: 2, Text: "2"}}, {{No: 0, Text: ""}}, {{No: 3, Text: "3"}}, {{No: 2, Text: ""}}} {
				checkCheck(t, s, api.Message{Mti: mti, Fields: list}, api.ErrArg, -1)
			}
		}
		checkCheck(t, s, api.Message{}, api.ErrArg, -1)
	}
}

func TestCheckOfMtis(t *testing.T) {
	for version := range 10 {
		s := mixed(1+version%2, version)
		for first := range 10 {
			for _, rest := range []string{"000", "200", "804", "999"} {
				m := api.Message{Mti: string(rune('0'+first)) + rest, Fields: full()}
				if first == version {
					checkCheck(t, s, m, api.OK, 0)
				} else {
					checkCheck(t, s, m, api.ErrMti, 0)
				}
			}
		}
		for _, mti := range noMtis {
			checkCheck(t, s, api.Message{Mti: mti}, api.ErrMti, 0)
			checkCheck(t, s, api.Message{Mti: mti, Fields: full()}, api.ErrMti, 0)
		}
	}
}

func TestCheckOfTheMtiAheadOfTheFields(t *testing.T) {
	for _, list := range [][]api.Value{{{No: 4, Text: "4"}, {No: 2, Text: "2"}}, {{No: 0, Text: ""}}, {{No: -1, Text: ""}}, {{No: 3, Text: "3"}}, {{No: 2, Text: ""}}, {{No: 11, Text: "12345x"}}, {{No: 55, Text: "\x5a"}}, {{No: 2, Text: "x"}, {No: 1, Text: "x"}}} {
		for _, mti := range append([]string{"1200", "9200"}, noMtis...) {
			checkCheck(t, mixed(1, 0), api.Message{Mti: mti, Fields: list}, api.ErrMti, 0)
		}
	}
}

func TestCheckOfTheOrder(t *testing.T) {
	for _, x := range []struct {
		nos   []int
		field int
	}{
		{[]int{2, 2}, 2}, {[]int{4, 3}, 3}, {[]int{128, 2}, 2}, {[]int{128, 128}, 128}, {[]int{128, 127}, 127}, {[]int{65, 64}, 64}, {[]int{64, 64}, 64},
		{[]int{2, 3, 3}, 3}, {[]int{2, 3, 2}, 2}, {[]int{2, 9, 8, 10}, 8}, {[]int{2, 9, 8, 7}, 8}, {[]int{2, 3, 4, 5, 3, 4, 5}, 3}, {[]int{2, 128, 3}, 3},
		{[]int{2, 3, 0}, 0}, {[]int{2, 3, 1}, 1}, {[]int{2, 3, -4}, -4}, {[]int{2, math.MinInt}, math.MinInt}, {[]int{0, 2}, 0}, {[]int{-3, 2}, -3},
	} {
		checkCheck(t, wide(0), of(x.nos...), api.ErrOrder, x.field)
	}
	// The first field: above 0.
	for _, no := range []int{0, -1, -2, -128, math.MinInt} {
		checkCheck(t, wide(0), of(no), api.ErrOrder, no)
		checkCheck(t, wide(0), of(no, 2, 3), api.ErrOrder, no)
	}
}

func TestCheckOfTwoNumbersEach(t *testing.T) {
	for a := 2; a <= 128; a++ {
		for b := -1; b <= 130; b++ {
			switch {
			case b <= a:
				checkCheck(t, wide(0), of(a, b), api.ErrOrder, b)
			case b > 128:
				checkCheck(t, wide(0), of(a, b), api.ErrNone, b)
			default:
				checkCheck(t, wide(0), of(a, b), api.OK, 0)
			}
		}
	}
}

func TestCheckOfFieldsThatTheSchemaHasNot(t *testing.T) {
	s := mixed(1, 0)
	has := schemaNumbers(s)
	for no := 1; no <= 260; no++ {
		if !slices.Contains(has, no) {
			checkCheck(t, s, of(no), api.ErrNone, no)
		}
	}
	for _, no := range []int{1 << 32, 1<<32 + 2, 1<<32 + 11, math.MaxInt} {
		checkCheck(t, s, of(no), api.ErrNone, no)
		checkCheck(t, s, with(of(), append(full(), api.Value{No: no, Text: "12345678"})...), api.ErrNone, no)
	}
	for at, one := range full() {
		without := s
		without.Fields = slices.Delete(slices.Clone(s.Fields), at, at+1)
		checkCheck(t, without, with(of(), full()...), api.ErrNone, one.No)
	}
	checkCheck(t, api.Schema{Style: 1}, with(of(), full()...), api.ErrNone, 2)
}

func TestCheckOfValuesThatMayNotBe(t *testing.T) {
	for _, style := range []int{api.SAscii, api.SBinary} {
		for _, x := range wrongTexts {
			s, m := mixed(style, 0), of()
			checkCheck(t, s, with(m, api.Value{No: x.no, Text: x.text}), x.want, x.no)
			among := full()
			for at := range among {
				if among[at].No == x.no {
					among[at].Text = x.text
				}
			}
			checkCheck(t, s, with(m, among...), x.want, x.no)
		}
	}
}

func TestCheckOfOneFieldTellsTheFirstFault(t *testing.T) {
	s := mixed(1, 0)
	// The order ahead of what the schema has not.
	for at, one := range full() {
		for _, no := range []int{1, 0, -5, math.MinInt, one.No - 1} {
			if !schema.Set(s).Has(no) {
				checkCheck(t, s, with(of(), full()[at], api.Value{No: no}), api.ErrOrder, no)
			}
		}
	}
	checkCheck(t, s, of(0), api.ErrOrder, 0)
	// The order ahead of the value, and what the schema has not ahead of any text.
	for _, x := range wrongTexts {
		wrong := api.Value{No: x.no, Text: x.text}
		checkCheck(t, s, with(of(), full()[6], wrong), api.ErrOrder, x.no)
		for at, one := range full() {
			if one.No >= x.no {
				checkCheck(t, s, with(of(), full()[at], wrong), api.ErrOrder, x.no)
			}
		}
		checkCheck(t, s, with(of(), api.Value{No: 3, Text: x.text}), api.ErrNone, 3)
		checkCheck(t, s, with(of(), api.Value{No: 129, Text: x.text}), api.ErrNone, 129)
	}
}

func TestCheckOfSeveralFieldsTellsTheFirst(t *testing.T) {
	s := mixed(2, 0)
	for _, x := range wrongTexts {
		wrong := api.Value{No: x.no, Text: x.text}
		for _, y := range wrongTexts {
			if y.no > x.no {
				checkCheck(t, s, with(of(), wrong, api.Value{No: y.no, Text: y.text}), x.want, x.no)
			}
		}
		checkCheck(t, s, with(of(), wrong, api.Value{No: 1}), x.want, x.no)
		checkCheck(t, s, with(of(), wrong, wrong), x.want, x.no)
		checkCheck(t, s, with(of(), wrong, api.Value{No: 129}), x.want, x.no)
		checkCheck(t, s, with(of(), api.Value{No: 1}, wrong), api.ErrNone, 1)
		checkCheck(t, s, with(of(), api.Value{No: 0}, wrong), api.ErrOrder, 0)
	}
	checkCheck(t, s, of(3, 2), api.ErrNone, 3)
	checkCheck(t, s, of(3, 2, 1, 0), api.ErrNone, 3)
	checkCheck(t, s, of(0, 3), api.ErrOrder, 0)
	checkCheck(t, s, with(of(), full()[1], api.Value{No: 11}, api.Value{No: 12}), api.ErrOrder, 11)
	checkCheck(t, s, with(of(), full()[1], api.Value{No: 12}, api.Value{No: 11}), api.ErrNone, 12)
}

// eachList: all lists of at most so many of these.
func eachList(pool []api.Value, most int, do func(list []api.Value)) {
	var grow func(list []api.Value)
	grow = func(list []api.Value) {
		do(list)
		if len(list) < most {
			for _, one := range pool {
				grow(append(slices.Clip(list), one))
			}
		}
	}
	grow(nil)
}

// few: values that may be, and such as may not, also of numbers that no field has.
func few() []api.Value {
	return []api.Value{{No: 2, Text: "4111111111111111"}, {No: 11, Text: "000001"}, {No: 55, Text: tagged}, {No: 128, Text: "12345678"}, {No: 2, Text: "x"}, {No: 11, Text: "00000x"}, {No: 55, Text: "\x5a"}, {No: 3, Text: "3"}, {No: 1, Text: ""}, {No: 0, Text: "0"}, {No: -1, Text: ""}, {No: 129, Text: "12345678"}}
}

// wantCheck: which is the first fault, by looking at all of them from the right.
func wantCheck(list []api.Value) (api.Errno, int) {
	texts := map[string]api.Errno{"x": api.ErrRange, "00000x": api.ErrClass, "\x5a": api.ErrTag}
	err, field := api.OK, 0
	for at := len(list) - 1; at >= 0; at-- {
		no := list[at].No
		switch {
		case at == 0 && no <= 0, at > 0 && no <= list[at-1].No:
			err, field = api.ErrOrder, no
		case !slices.Contains([]int{2, 11, 55, 128}, no):
			err, field = api.ErrNone, no
		case texts[list[at].Text] != api.OK:
			err, field = texts[list[at].Text], no
		}
	}
	return err, field
}

func TestCheckOfAllShortLists(t *testing.T) {
	right := 0
	eachList(few(), 4, func(list []api.Value) {
		want, field := wantCheck(list)
		if want == api.OK {
			right++
		}
		checkCheck(t, mixed(1, 0), with(of(), list...), want, field)
	})
	if right != 16 {
		t.Errorf("%d right ones", right)
	}
}

// P16.2: Get

func TestGetOfWhatIsThere(t *testing.T) {
	m := with(of(), full()...)
	for no := -3; no <= 260; no++ {
		at := slices.IndexFunc(full(), func(v api.Value) bool { return v.No == no })
		if at < 0 {
			checkGet(t, m, no, "", false)
		} else {
			checkGet(t, m, no, full()[at].Text, true)
		}
	}
	for _, no := range noFields {
		checkGet(t, m, no, "", false)
		checkGet(t, api.Message{}, no, "", false)
		// Of any message: the number need be no field's.
		checkGet(t, of(2, no, 3), no, "textb", true)
	}
	checkGet(t, api.Message{Fields: []api.Value{{}}}, 0, "", true)
	checkGet(t, api.Message{Mti: "x", Fields: []api.Value{{No: 5, Text: ""}}}, 5, "", true)
	checkGet(t, api.Message{Fields: []api.Value{}}, 2, "", false)
}

func TestGetTellsTheFirst(t *testing.T) {
	m := of(7, 2, 9, 2, 2, 9)
	checkGet(t, m, 7, "texta", true)
	checkGet(t, m, 2, "textb", true)
	checkGet(t, m, 9, "textc", true)
	checkGet(t, m, 3, "", false)
	checkGet(t, with(m, api.Value{No: 4}, api.Value{No: 4, Text: "x"}), 4, "", true)
}

// P16.2: Set

func TestSetOfMessages(t *testing.T) {
	checkSet(t, api.Message{})
	checkSet(t, api.Message{Mti: "0200", Fields: []api.Value{}})
	checkSet(t, with(of(), full()...), 2, 11, 37, 48, 49, 55, 128)
	checkSet(t, of(5, 4, 5, 4, 3), 3, 4, 5)
	checkSet(t, of(9, 9), 9)
	checkSet(t, of(noFields...), 1)
	checkSet(t, of(0, 129, -1))
	checkSet(t, of(70, 0, 3, -5, 1, 3, 129, 128, math.MaxInt, 2, 70, math.MinInt, 0), 1, 2, 3, 70, 128)
	for no := 1; no <= 128; no++ {
		checkSet(t, of(no), no)
	}
	all := schemaNumbers(wide(0))
	checkSet(t, of(all...), all...)
	if Set(of(4, 3, 3, 0)) != fields.Of(3, 4) || Set(api.Message{}) != (fields.Set{}) {
		t.Error("sets that may be compared")
	}
}

// P16.2: Without

func TestWithoutOfOneField(t *testing.T) {
	m := with(of(), full()...)
	for at, one := range full() {
		checkWithout(t, m, one.No, slices.Delete(full(), at, at+1)...)
		checkWithout(t, with(of(), one), one.No)
	}
	for no := -3; no <= 260; no++ {
		if !Set(m).Has(no) {
			checkWithout(t, m, no, full()...)
		}
	}
	for _, no := range noFields {
		checkWithout(t, m, no, full()...)
		checkWithout(t, of(2, no, 3), no, pick(of(2, no, 3), 0, 2)...)
		checkWithout(t, api.Message{}, no)
	}
	checkWithout(t, api.Message{Mti: "any", Fields: []api.Value{}}, 2)
}

func TestWithoutOfSeveralFields(t *testing.T) {
	for _, x := range []struct {
		nos, left []int // left: places
	}{
		{[]int{5, 5}, nil}, {[]int{5, 5, 5}, nil}, {[]int{5, 5, 6}, []int{2}}, {[]int{4, 5, 5}, []int{0}}, {[]int{4, 5, 5, 6}, []int{0, 3}}, {[]int{5, 4, 5}, []int{1}},
		{[]int{5, 4, 5, 6, 5}, []int{1, 3}}, {[]int{4, 5, 6, 5, 4}, []int{0, 2, 4}}, {[]int{9, 8, 5, 5, 8, 9, 5, 5}, []int{0, 1, 4, 5}}, {[]int{5, 0, 129, 5, -5}, []int{1, 2, 4}}, {[]int{6, 4, 6}, []int{0, 1, 2}},
	} {
		m := of(x.nos...)
		checkWithout(t, m, 5, pick(m, x.left...)...)
	}
}

// P16.2: With

func TestWithOfANewField(t *testing.T) {
	m := of(3, 11, 64, 65, 100)
	for no := -3; no <= 260; no++ {
		if Set(m).Has(no) {
			continue
		}
		at := 0
		for at < len(m.Fields) && m.Fields[at].No < no {
			at++
		}
		checkWith(t, m, no, "new", slices.Insert(slices.Clone(m.Fields), at, api.Value{No: no, Text: "new"})...)
	}
	one := m.Fields
	checkWith(t, m, 2, "x", api.Value{No: 2, Text: "x"}, one[0], one[1], one[2], one[3], one[4])
	checkWith(t, m, 12, "x", one[0], one[1], api.Value{No: 12, Text: "x"}, one[2], one[3], one[4])
	checkWith(t, m, 128, "", one[0], one[1], one[2], one[3], one[4], api.Value{No: 128})
	for _, no := range noFields {
		checkWith(t, api.Message{}, no, "alone", api.Value{No: no, Text: "alone"})
		checkWith(t, api.Message{Mti: "any", Fields: []api.Value{}}, no, "", api.Value{No: no})
	}
	checkWith(t, m, math.MinInt, "x", slices.Insert(slices.Clone(one), 0, api.Value{No: math.MinInt, Text: "x"})...)
	checkWith(t, m, math.MaxInt, "x", slices.Insert(slices.Clone(one), 5, api.Value{No: math.MaxInt, Text: "x"})...)
}

func TestWithOfAFieldThatIsThere(t *testing.T) {
	m := of(3, 11, 64, 65, 100)
	for at, one := range m.Fields {
		want := slices.Clone(m.Fields)
		want[at].Text = "another"
		checkWith(t, m, one.No, "another", want...)
		checkWith(t, m, one.No, one.Text, m.Fields...)
		checkWith(t, with(m, one), one.No, "", api.Value{No: one.No})
	}
}

func TestWithOfFieldsThatDontRise(t *testing.T) {
	for _, x := range []struct {
		nos, left []int // left: places; -1 that of the new one
	}{
		{[]int{5, 5}, []int{-1}}, {[]int{5, 5, 6}, []int{-1, 2}}, {[]int{4, 5, 5, 6}, []int{0, -1, 3}}, {[]int{4, 5, 5}, []int{0, -1}}, {[]int{4, 5, 4, 5, 4}, []int{0, 2, 4, -1}},
		{[]int{6, 4}, []int{-1, 0, 1}}, {[]int{6, 5, 4}, []int{-1, 0, 2}}, {[]int{4, 9, 3, 8}, []int{0, -1, 1, 2, 3}}, {[]int{4, 3, 2}, []int{0, 1, 2, -1}}, {[]int{5, 9, 5, 3, 5}, []int{-1, 1, 3}},
		{[]int{3, 5, 2, 5, 7, 5, 6}, []int{0, 2, -1, 4, 6}}, {[]int{9, 9, 9}, []int{-1, 0, 1, 2}}, {[]int{4, 4, 4}, []int{0, 1, 2, -1}}, {[]int{0, -7, 129, 1}, []int{0, 1, -1, 2, 3}},
	} {
		m := of(x.nos...)
		var want []api.Value
		for _, at := range x.left {
			if at < 0 {
				want = append(want, api.Value{No: 5, Text: "new"})
			} else {
				want = append(want, m.Fields[at])
			}
		}
		checkWith(t, m, 5, "new", want...)
	}
}

// wantWith: by another way than the program's.
func wantWith(list []api.Value, no int, text string) []api.Value {
	rest := slices.DeleteFunc(slices.Clone(list), func(v api.Value) bool { return v.No == no })
	at := slices.IndexFunc(rest, func(v api.Value) bool { return v.No > no })
	if at < 0 {
		at = len(rest)
	}
	return slices.Insert(rest, at, api.Value{No: no, Text: text})
}

func TestWithAndWithoutOfAllShortLists(t *testing.T) {
	pool := []api.Value{{No: 2, Text: "a"}, {No: 2, Text: "b"}, {No: 3, Text: "c"}, {No: 4, Text: "d"}, {No: 0, Text: "e"}, {No: 129, Text: "f"}}
	eachList(pool, 5, func(list []api.Value) {
		m := api.Message{Mti: "9", Fields: list}
		for _, no := range []int{-1, 0, 2, 3, 4, 128, 129, 130} {
			checkWith(t, m, no, "new", wantWith(list, no, "new")...)
			checkGet(t, With(m, no, "new"), no, "new", true)
			gone := Without(m, no)
			checkGet(t, gone, no, "", false)
			// What was put in is taken away again, and nothing else.
			checkSame(t, Without(With(m, no, "new"), no), gone, true)
			if Set(gone) != Set(m).Without(no) || Set(With(m, no, "")) != Set(m).With(no) {
				t.Errorf("the sets of %#v, with and without %d", m, no)
			}
		}
	})
}

func TestTheMtiStays(t *testing.T) {
	for _, mti := range append([]string{"0200", "1804"}, noMtis...) {
		m := api.Message{Mti: mti, Fields: full()}
		if got := With(m, 3, "x").Mti; got != mti {
			t.Errorf("With: %q; want %q", got, mti)
		}
		if got := Without(m, 2).Mti; got != mti {
			t.Errorf("Without: %q; want %q", got, mti)
		}
	}
}

// P16.2: Same

// changes: each makes another message of one with at least two fields that differ.
var changes = []func(m *api.Message){
	func(m *api.Message) { m.Mti = "0210" },
	func(m *api.Message) { m.Mti += "0" },
	func(m *api.Message) { m.Mti = "" },
	func(m *api.Message) { m.Fields = nil },
	func(m *api.Message) { m.Fields = m.Fields[1:] },
	func(m *api.Message) { m.Fields = m.Fields[:len(m.Fields)-1] },
	func(m *api.Message) { m.Fields = append(m.Fields, m.Fields[0]) },
	func(m *api.Message) { m.Fields = append(m.Fields, api.Value{}) },
	func(m *api.Message) { m.Fields = slices.Insert(m.Fields, 1, m.Fields[0]) },
	func(m *api.Message) { m.Fields[0], m.Fields[1] = m.Fields[1], m.Fields[0] },
	func(m *api.Message) { slices.Reverse(m.Fields) },
}

func TestSameOfTheSame(t *testing.T) {
	for _, m := range []api.Message{{}, {Mti: "x"}, of(), of(2), with(of(), full()...), of(3, 2, 3), of(noFields...), {Fields: []api.Value{{}}}} {
		checkSame(t, m, m, true)
		checkSame(t, m, twin(m), true)
	}
	checkSame(t, api.Message{Mti: "0200", Fields: []api.Value{}}, api.Message{Mti: "0200"}, true)
}

func TestSameOfOthers(t *testing.T) {
	for _, m := range []api.Message{with(of(), full()...), of(2, 3), of(3, 2, 3), of(noFields...), of(schemaNumbers(wide(0))...)} {
		for n, change := range changes {
			other := twin(m)
			change(&other)
			if alike(m, other) {
				t.Fatalf("change %d of %#v changes nothing", n, m)
			}
			checkSame(t, m, other, false)
		}
		for at := range m.Fields {
			for _, by := range []int{1, -1, 1 << 8, 1 << 32, math.MinInt} {
				other := twin(m)
				other.Fields[at].No += by
				checkSame(t, m, other, false)
			}
			for _, text := range []string{"", m.Fields[at].Text + "0", m.Fields[at].Text + "\x00", m.Fields[at].Text[1:], "9" + m.Fields[at].Text[1:]} {
				other := twin(m)
				other.Fields[at].Text = text
				checkSame(t, m, other, false)
			}
		}
	}
	checkSame(t, api.Message{}, api.Message{Fields: []api.Value{{}}}, false)
	checkSame(t, of(2, 2, 3), of(2, 3, 3), false)
	checkSame(t, of(0), of(129), false)
}

func TestSameOfAllShortLists(t *testing.T) {
	var all []api.Message
	eachList(few(), 2, func(list []api.Value) {
		all = append(all, api.Message{Mti: "0200", Fields: slices.Clone(list)})
	})
	for at, a := range all {
		for other, b := range all {
			checkSame(t, a, twin(b), at == other)
		}
	}
}

// P16.3

func TestWhatIsValidStaysSo(t *testing.T) {
	for bits := range 1 << 7 {
		s, m := mixed(1+bits%2, 0), of()
		for at, one := range full() {
			if bits>>at&1 == 1 {
				m.Fields = append(m.Fields, one)
			}
		}
		checkCheck(t, s, m, api.OK, 0)
		for _, one := range full() {
			checkCheck(t, s, With(m, one.No, one.Text), api.OK, 0)
		}
		for _, one := range []api.Value{{No: 2, Text: "000000000000"}, {No: 2, Text: strings.Repeat("9", 19)}, {No: 11, Text: "999999"}, {No: 48, Text: strings.Repeat("~", 999)}, {No: 49, Text: "abc"}, {No: 55, Text: "\x5a\x00"}, {No: 128, Text: "\x00\x00\x00\x00\x00\x00\x00\x00"}} {
			checkCheck(t, s, With(m, one.No, one.Text), api.OK, 0)
		}
		for no := -2; no <= 131; no++ {
			checkCheck(t, s, Without(m, no), api.OK, 0)
		}
		for _, no := range noFields {
			checkCheck(t, s, Without(m, no), api.OK, 0)
		}
		for _, x := range wrongTexts {
			checkCheck(t, s, With(m, x.no, x.text), x.want, x.no)
		}
		checkCheck(t, s, With(m, 3, "3"), api.ErrNone, 3)
		checkCheck(t, s, With(m, 0, "0"), api.ErrOrder, 0)
	}
}

func TestWhatIsBuiltFieldByFieldIsValid(t *testing.T) {
	s := wide(0)
	for step := 1; step <= 126; step++ {
		m := of()
		// 127 numbers, and 127 is prime: each of them once, in another order for each step.
		for n := range 127 {
			m = With(m, 2+n*step%127, "v")
			checkCheck(t, s, m, api.OK, 0)
			if len(m.Fields) != n+1 {
				t.Fatalf("step %d: %d fields behind %d", step, len(m.Fields), n)
			}
		}
		if Set(m) != schema.Set(s) {
			t.Fatalf("step %d: fields are missing", step)
		}
		for n := range 127 {
			m = Without(m, 2+n*step%127)
			checkCheck(t, s, m, api.OK, 0)
		}
		checkSame(t, m, of(), true)
	}
}

// The rules that hold everywhere

// spoil: writes all over an answer, and behind it.
func spoil(m api.Message) {
	for at := range m.Fields {
		m.Fields[at] = api.Value{No: -1, Text: "spoilt"}
	}
	room := m.Fields[:cap(m.Fields)]
	for at := range room {
		room[at] = api.Value{No: -2, Text: "spoilt"}
	}
}

func TestWhatIsHandedInStays(t *testing.T) {
	for _, m := range []api.Message{with(of(), full()...), of(9, 4, 7, 2), of(2, 3, 3, 2), of(noFields...), of()} {
		// Spare room behind the lists, too.
		room := append(slices.Clone(m.Fields), of(90, 91, 92).Fields...)
		whole := slices.Clone(room)
		handed := api.Message{Mti: m.Mti, Fields: room[:len(m.Fields)]}
		s := mixed(1, 0)
		specs := append(slices.Clone(s.Fields), s.Fields...)
		s.Fields = specs[:7]
		wholeSpecs := slices.Clone(specs)
		Check(s, handed)
		Get(handed, 2)
		Set(handed)
		Same(handed, m)
		Same(m, handed)
		for _, no := range []int{-9, 0, 1, 2, 3, 5, 11, 55, 90, 100, 128, 200} {
			spoil(Without(handed, no))
			spoil(With(handed, no, "new"))
		}
		if !slices.Equal(room, whole) || !alike(handed, m) || !slices.Equal(specs, wholeSpecs) {
			t.Errorf("%#v became %#v, %#v", m, handed, room)
		}
	}
}

func TestWhatIsAnsweredStays(t *testing.T) {
	m := with(of(), full()...)
	// Where nothing is taken away, too; and no two answers share anything.
	kept, again := Without(m, 3), Without(m, 3)
	less, more, other := Without(m, 2), With(m, 3, "x"), With(m, 11, "y")
	text, _ := Get(m, 48)
	spoil(again)
	spoil(m)
	if !alike(kept, with(of(), full()...)) || !alike(less, with(of(), full()[1:]...)) {
		t.Errorf("what Without answered became %#v, %#v", kept, less)
	}
	want := slices.Insert(full(), 1, api.Value{No: 3, Text: "x"})
	if !alike(more, with(of(), want...)) {
		t.Errorf("what With answered became %#v", more)
	}
	want = full()
	want[1].Text = "y"
	if !alike(other, with(of(), want...)) || text != "a text, 1" {
		t.Errorf("what With answered became %#v; what Get did %q", other, text)
	}
}

func TestNilAndEmptyListsAreOne(t *testing.T) {
	for _, s := range []api.Schema{mixed(1, 0), {Style: 1}, {Style: 1, Fields: []api.Spec{}}, {}} {
		a, b := api.Message{Mti: "0200"}, api.Message{Mti: "0200", Fields: []api.Value{}}
		if Check(s, a) != Check(s, b) {
			t.Errorf("Check by %v: %v, %v", s, Check(s, a), Check(s, b))
		}
		checkSame(t, a, b, true)
		for _, no := range append([]int{2, 39, 128}, noFields...) {
			checkSame(t, With(a, no, "x"), With(b, no, "x"), true)
			checkSame(t, Without(a, no), Without(b, no), true)
			checkSame(t, Without(of(no), no), a, true)
			checkSame(t, Without(of(no), no), b, true)
			checkGet(t, a, no, "", false)
			checkGet(t, b, no, "", false)
		}
		if Set(a) != Set(b) {
			t.Error("the sets of no fields")
		}
	}
}

func TestNothingIsKept(t *testing.T) {
	m := with(of(), full()...)
	for range 3 {
		checkCheck(t, wide(0), of(4, 2), api.ErrOrder, 2)
		checkCheck(t, mixed(1, 0), m, api.OK, 0)
		checkCheck(t, mixed(1, 1), m, api.ErrMti, 0)
		checkGet(t, of(3), 2, "", false)
		checkGet(t, m, 2, full()[0].Text, true)
		checkSet(t, of(3, 4), 3, 4)
		checkSet(t, api.Message{})
		checkWithout(t, m, 2, full()[1:]...)
		checkWithout(t, m, 3, full()...)
		checkWith(t, of(3), 2, "x", api.Value{No: 2, Text: "x"}, of(3).Fields[0])
		checkSame(t, m, of(2), false)
		checkSame(t, m, m, true)
	}
}

func TestLongListsEnd(t *testing.T) {
	const many = 1 << 18
	nos := make([]int, many)
	for at := range nos {
		nos[at] = 2 + at%200
	}
	m := of(nos...)
	if f := Check(wide(0), m); f != (api.Fault{Err: api.ErrNone, Field: 129}) {
		t.Errorf("Check: %v", f)
	}
	if _, ok := Get(m, 1); ok {
		t.Error("Get: 1")
	}
	if Set(m) != schema.Set(wide(0)) {
		t.Error("Set")
	}
	fewer := many - (many+199)/200
	if r := Without(m, 2); len(r.Fields) != fewer {
		t.Errorf("Without: %d", len(r.Fields))
	}
	if r := With(m, 2, "x"); len(r.Fields) != fewer+1 || r.Fields[0] != (api.Value{No: 2, Text: "x"}) {
		t.Errorf("With: %d", len(r.Fields))
	}
	if r := With(m, 300, "x"); len(r.Fields) != many+1 || r.Fields[many].No != 300 {
		t.Errorf("With at the end: %d", len(r.Fields))
	}
	other := twin(m)
	if !Same(m, other) {
		t.Error("Same: unlike")
	}
	other.Fields[many-1].No++
	if Same(m, other) {
		t.Error("Same: alike")
	}
}
