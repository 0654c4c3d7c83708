package xlate

import (
	"math"
	"slices"
	"strconv"
	"strings"
	"testing"

	"groat/api"
	"groat/dialect"
	"groat/fields"
	"groat/msg"
	"groat/rule"
	"groat/schema"
	"groat/strict"
	"groat/wire"
)

func of(no, class, form, least, greatest int) api.Spec {
	return api.Spec{No: no, Class: class, Form: form, Min: least, Max: greatest}
}

// fixed: so many digits.
func fixed(no, width int) api.Spec { return of(no, api.CDigits, api.FFixed, width, width) }

// left: the one schema. 63 to 65 stand where sets of fields are parted, 2 and 128 at their ends.
func left() api.Schema {
	return api.Schema{Style: api.SAscii, Version: 0, Fields: []api.Spec{
		of(2, api.CDigits, api.FTwo, 1, 19),
		fixed(3, 6),
		fixed(11, 6),
		fixed(12, 6),
		of(13, api.CAlnum, api.FFixed, 4, 4),
		of(39, api.CAlnum, api.FFixed, 2, 2),
		of(48, api.CPrint, api.FThree, 1, 999),
		fixed(63, 3),
		fixed(64, 3),
		fixed(65, 3),
		fixed(127, 3),
		of(128, api.CBytes, api.FFixed, 8, 8),
	}}
}

// right: the other one. 13 stands in left alone, 14 and 26 here alone.
func right() api.Schema {
	return api.Schema{Style: api.SBinary, Version: 1, Fields: []api.Spec{
		of(2, api.CDigits, api.FTwo, 1, 28),
		fixed(3, 6),
		fixed(11, 6),
		fixed(12, 12),
		of(14, api.CAlnum, api.FThree, 1, 9),
		fixed(26, 4),
		of(39, api.CDigits, api.FFixed, 3, 3),
		of(48, api.CPrint, api.FThree, 1, 999),
		fixed(63, 3),
		fixed(64, 3),
		fixed(65, 3),
		fixed(127, 3),
		of(128, api.CBytes, api.FFixed, 8, 8),
	}}
}

// wide: a schema with each field that there may be, of three digits.
func wide(version int) api.Schema {
	s := api.Schema{Style: api.SAscii, Version: version}
	for no := 2; no <= api.MaxField; no++ {
		s.Fields = append(s.Fields, fixed(no, 3))
	}
	return s
}

func pairs(fromsAndTos ...string) []api.Pair {
	var l []api.Pair
	for i := 0; i < len(fromsAndTos); i += 2 {
		l = append(l, api.Pair{From: fromsAndTos[i], To: fromsAndTos[i+1]})
	}
	return l
}

// types: so many pairs of MTIs from version 0 to version 1, of which each asks or none does.
func types(n int) []api.Pair {
	var l []api.Pair
	for i := range n {
		rest := strconv.Itoa(1000 + i)[1:]
		l = append(l, api.Pair{From: "0" + rest, To: "1" + rest})
	}
	return l
}

func drop(from int) api.Rule { return api.Rule{Kind: api.RDrop, From: from} }

func copied(from, to int) api.Rule { return api.Rule{Kind: api.RCopy, From: from, To: to} }

func repad(from, to int) api.Rule { return api.Rule{Kind: api.RRepad, From: from, To: to} }

func constant(to int, text string) api.Rule {
	return api.Rule{Kind: api.RConst, To: to, Text: text}
}

func table(from, to int, fromsAndTos ...string) api.Rule {
	return api.Rule{Kind: api.RTable, From: from, To: to, Pairs: pairs(fromsAndTos...)}
}

func mapOf(mtis []api.Pair, rules ...api.Rule) api.Map { return api.Map{Mtis: mtis, Rules: rules} }

// usual: a map from left to right with rules of each kind, in no order.
func usual() api.Map {
	return mapOf(pairs("0200", "1200", "0210", "1210", "0420", "1420", "0400", "1420"),
		table(39, 39, "00", "000", "05", "100", "0a", "100"),
		copied(128, 128),
		drop(13),
		constant(26, "5999"),
		copied(65, 64),
		copied(64, 65),
		repad(12, 12),
		copied(11, 3),
		constant(14, "a0"),
		copied(2, 2),
		drop(48),
	)
}

// message: an MTI, and a number and a text of each field.
func message(mti string, list ...any) api.Message {
	m := api.Message{Mti: mti}
	for i := 0; i < len(list); i += 2 {
		m.Fields = append(m.Fields, api.Value{No: list[i].(int), Text: list[i+1].(string)})
	}
	return m
}

// told: a map in few signs, since it may be long.
func told(m api.Map) string {
	s := "map of"
	for _, p := range m.Mtis[:min(len(m.Mtis), 5)] {
		s += " " + strconv.Quote(p.From) + ">" + strconv.Quote(p.To)
	}
	s += " (" + strconv.Itoa(len(m.Mtis)) + " pairs);"
	for _, r := range m.Rules[:min(len(m.Rules), 12)] {
		s += " " + strconv.Itoa(r.Kind) + ":" + strconv.Itoa(r.From) + ">" + strconv.Itoa(r.To)
	}
	return s + " (" + strconv.Itoa(len(m.Rules)) + " rules)"
}

// said: a message in few signs.
func said(x api.Message) string {
	s := strconv.Quote(x.Mti[:min(len(x.Mti), 10)])
	for _, one := range x.Fields[:min(len(x.Fields), 20)] {
		s += " " + strconv.Itoa(one.No) + ":" + strconv.Quote(one.Text[:min(len(one.Text), 20)])
	}
	return s
}

func checkCheck(t *testing.T, m api.Map, a, b api.Schema, want api.Errno, part, at int) {
	t.Helper()
	if err, inPart, place := Check(m, a, b); err != want || inPart != part || place != at {
		t.Errorf("Check(%s): %d, %d, %d; want %d, %d, %d", told(m), err, inPart, place, want, part, at)
	}
}

// checkBetween: from left to right.
func checkBetween(t *testing.T, m api.Map, want api.Errno, part, at int) {
	t.Helper()
	checkCheck(t, m, left(), right(), want, part, at)
}

func checkMade(t *testing.T, m api.Map, a, b api.Schema, x, want api.Message) {
	t.Helper()
	if y, fault := Translate(m, a, b, x); fault != (api.Fault{}) || y.Mti != want.Mti || !slices.Equal(y.Fields, want.Fields) {
		t.Errorf("Translate(%s) of %s: %s, %v; want %s", told(m), said(x), said(y), fault, said(want))
	}
}

func checkFault(t *testing.T, m api.Map, a, b api.Schema, x api.Message, want api.Errno, field int) {
	t.Helper()
	if y, fault := Translate(m, a, b, x); fault.Err != want || fault.Field != field || y.Mti != "" || len(y.Fields) != 0 {
		t.Errorf("Translate(%s) of %s: %s, %v; want none, %d (%d)", told(m), said(x), said(y), fault, want, field)
	}
}

// A second reader of the chapter.

func isMti(m string, version int) bool {
	return len(m) == 4 && strings.Trim(m, "0123456789") == "" && m[:1] == strconv.Itoa(version)
}

func asks(m string) bool { return m[2] == '0' || m[2] == '2' }

func wantCheck(m api.Map, a, b api.Schema) (api.Errno, int, int) {
	if err, _ := schema.Check(a); err != api.OK {
		return api.ErrArg, 1, 0
	}
	if err, _ := schema.Check(b); err != api.OK {
		return api.ErrArg, 1, 1
	}
	if len(m.Mtis) > 256 {
		return api.ErrRange, 2, 256
	}
	ahead := map[string]bool{}
	for at, p := range m.Mtis {
		if !isMti(p.From, a.Version) || !isMti(p.To, b.Version) || asks(p.From) != asks(p.To) {
			return api.ErrMti, 2, at
		}
		if ahead[p.From] {
			return api.ErrTwice, 2, at
		}
		ahead[p.From] = true
	}
	if len(m.Rules) > 256 {
		return api.ErrRange, 3, 256
	}
	froms, tos := map[int]bool{}, map[int]bool{}
	for at, r := range m.Rules {
		if err := rule.Check(r, a, b); err != api.OK {
			return err, 3, at
		}
		if r.From != 0 && froms[r.From] || r.To != 0 && tos[r.To] {
			return api.ErrTwice, 3, at
		}
		froms[r.From], tos[r.To] = true, true
	}
	return api.OK, 0, 0
}

func wantTranslate(m api.Map, a, b api.Schema, x api.Message) (api.Message, api.Fault) {
	if err, _, _ := wantCheck(m, a, b); err != api.OK {
		return api.Message{}, api.Fault{Err: api.ErrArg, Field: -1}
	}
	if fault := msg.Check(a, x); fault.Err != api.OK {
		return api.Message{}, fault
	}
	types := map[string]string{}
	for _, p := range m.Mtis {
		types[p.From] = p.To
	}
	if types[x.Mti] == "" {
		return api.Message{}, api.Fault{Err: api.ErrMti, Field: 0}
	}
	by := map[int]api.Rule{}
	made := map[int]string{}
	for _, r := range m.Rules {
		if r.Kind == api.RConst {
			made[r.To] = r.Text
		} else {
			by[r.From] = r
		}
	}
	for _, one := range x.Fields {
		r, ok := by[one.No]
		if !ok {
			return api.Message{}, api.Fault{Err: api.ErrNone, Field: one.No}
		}
		value, err := rule.Apply(r, b, one.Text)
		if err != api.OK {
			return api.Message{}, api.Fault{Err: err, Field: one.No}
		}
		made[value.No] = value.Text
	}
	y := api.Message{Mti: types[x.Mti]}
	for no := 2; no <= 128; no++ {
		if text, ok := made[no]; ok {
			y.Fields = append(y.Fields, api.Value{No: no, Text: text})
		}
	}
	return y, api.Fault{}
}

func checkByReader(t *testing.T, m api.Map, a, b api.Schema, list ...api.Message) api.Errno {
	t.Helper()
	want, part, at := wantCheck(m, a, b)
	checkCheck(t, m, a, b, want, part, at)
	for _, x := range list {
		y, fault := wantTranslate(m, a, b, x)
		if fault.Err != api.OK {
			checkFault(t, m, a, b, x, fault.Err, fault.Field)
		} else {
			checkMade(t, m, a, b, x, y)
		}
	}
	return want
}

// P21.1: part 1, the schemas

func TestCheckOfMapsThatMayBe(t *testing.T) {
	checkBetween(t, usual(), api.OK, 0, 0)
	checkBetween(t, api.Map{}, api.OK, 0, 0)
	checkCheck(t, api.Map{}, right(), left(), api.OK, 0, 0)
	checkCheck(t, api.Map{}, left(), left(), api.OK, 0, 0)
	checkBetween(t, mapOf(usual().Mtis), api.OK, 0, 0)
	checkBetween(t, mapOf(nil, usual().Rules...), api.OK, 0, 0)
	for _, n := range []int{1, 2, 100, 255, 256} {
		checkBetween(t, mapOf(types(n)), api.OK, 0, 0)
	}
	// The chapter's example.
	checkCheck(t, mapOf(pairs("0200", "1200"), copied(11, 11), constant(26, "5999")), dialect.Acquirer(), dialect.Issuer(), api.OK, 0, 0)
}

// wrongSchemas: ones of which layer 13 tells errors, from one that may be.
func wrongSchemas(s api.Schema) []api.Schema {
	var list []api.Schema
	spoil := func(by func(s *api.Schema)) {
		one := api.Schema{Style: s.Style, Version: s.Version, Fields: slices.Clone(s.Fields)}
		by(&one)
		list = append(list, one)
	}
	for _, style := range []int{-1, 0, 3, 1<<32 + 1} {
		spoil(func(s *api.Schema) { s.Style = style })
	}
	for _, version := range []int{math.MinInt, -1, 10, 1 << 32} {
		spoil(func(s *api.Schema) { s.Version = version })
	}
	last := len(s.Fields) - 1
	spoil(func(s *api.Schema) { s.Fields[0].No = 1 })
	spoil(func(s *api.Schema) { s.Fields[last].No = 129 })
	spoil(func(s *api.Schema) { s.Fields[last].Class = 0 })
	spoil(func(s *api.Schema) { s.Fields[last].Min = 0 })
	spoil(func(s *api.Schema) { s.Fields[3].Form = 4 })
	spoil(func(s *api.Schema) { s.Fields[1] = s.Fields[0] })
	spoil(func(s *api.Schema) { slices.Reverse(s.Fields) })
	return append(list, api.Schema{})
}

// wrongMaps: ones of which the parts behind the schemas tell errors, from left to right.
func wrongMaps() []api.Map {
	return []api.Map{
		mapOf(types(257)), mapOf(pairs("", "")), mapOf(pairs("0200", "1200", "0200", "1200")),
		mapOf(nil, make([]api.Rule, 257)...), mapOf(nil, api.Rule{}), mapOf(nil, copied(11, 11), drop(11)),
		mapOf(make([]api.Pair, 300), make([]api.Rule, 300)...),
	}
}

func TestCheckOfSchemas(t *testing.T) {
	for _, m := range append(wrongMaps(), api.Map{}, usual()) {
		for _, a := range wrongSchemas(left()) {
			checkCheck(t, m, a, right(), api.ErrArg, 1, 0)
			for _, b := range wrongSchemas(right()) {
				checkCheck(t, m, a, b, api.ErrArg, 1, 0)
			}
		}
		for _, b := range wrongSchemas(right()) {
			checkCheck(t, m, left(), b, api.ErrArg, 1, 1)
		}
	}
}

// P21.1: part 2, the pairs of MTIs

func TestCheckOfTooManyPairs(t *testing.T) {
	for _, n := range []int{257, 258, 300, 1000} {
		checkBetween(t, mapOf(types(n)), api.ErrRange, 2, 256)
		for _, at := range []int{0, 1, 255, 256} {
			for _, p := range pairs("", "", "0200", "1210", "1200", "1200", "0000", "1000") {
				l := types(n)
				l[at] = p
				checkBetween(t, mapOf(l), api.ErrRange, 2, 256)
				checkBetween(t, mapOf(l, make([]api.Rule, 300)...), api.ErrRange, 2, 256)
			}
		}
		checkBetween(t, mapOf(make([]api.Pair, n)), api.ErrRange, 2, 256)
	}
	for _, at := range []int{0, 1, 128, 254, 255} {
		l := types(256)
		l[at].To = "0200"
		checkBetween(t, mapOf(l), api.ErrMti, 2, at)
		if at > 0 {
			l = types(256)
			l[at] = l[at/2]
			checkBetween(t, mapOf(l), api.ErrTwice, 2, at)
		}
	}
}

// wrongPairs: ones that may not be from version 0 to version 1.
func wrongPairs() []api.Pair {
	list := pairs(
		// No MTIs.
		"", "1200", "0200", "", "", "", "020", "1200", "0200", "120", "02000", "1200", "0200", "12000", "02a0", "1200", "0200", "12a0", "0 00", "1200", "0200", "1 00", "+200", "1200", "0200", "-200", "0200 ", "1200", "0200", " 1200", "02\x000", "1200", "0200", "12\xb20", "0\u0662\u0660\u0660", "1200", "\uff10200", "1200", "0x200", "1200",
		// Other versions.
		"1200", "1200", "2200", "1200", "9200", "1200", "0200", "0200", "0200", "2200", "0200", "9200", "1200", "0200", "1210", "1210", "0210", "0210",
		// The one asks.
		"0200", "1210", "0210", "1200", "0220", "1230", "0230", "1220", "0200", "1230", "0230", "1200", "0210", "1220", "0220", "1210", "0240", "1200", "0200", "1240", "0290", "1220", "0220", "1290", "0800", "1814", "0811", "1821",
	)
	return list
}

func TestCheckOfPairs(t *testing.T) {
	for _, wrong := range wrongPairs() {
		checkBetween(t, mapOf([]api.Pair{wrong}), api.ErrMti, 2, 0)
		for _, n := range []int{2, 3, 10, 256} {
			for _, at := range []int{0, 1, n / 2, n - 1} {
				l := types(n)
				l[at] = wrong
				checkBetween(t, mapOf(l), api.ErrMti, 2, at)
				// What the rules are like is told behind.
				checkBetween(t, mapOf(l, api.Rule{}), api.ErrMti, 2, at)
				checkBetween(t, mapOf(l, make([]api.Rule, 257)...), api.ErrMti, 2, at)
			}
		}
	}
}

// What is no MTI is of no version, and doesn't ask: that isn't enough.
func TestCheckOfTextsThatAreNoMtis(t *testing.T) {
	for _, text := range []string{"", "0", "02", "021", "02100", "021x", "x210", "0 10", "0210 ", " 210", "-210", "02\x0010", "021\xb0", "\xff\xff\xff\xff", strings.Repeat("0210", 1000)} {
		checkBetween(t, mapOf(pairs(text, "1210")), api.ErrMti, 2, 0)
		checkBetween(t, mapOf(pairs("0210", "1210", text, "1210")), api.ErrMti, 2, 1)
		checkCheck(t, mapOf(pairs("1210", text)), right(), left(), api.ErrMti, 2, 0)
		checkCheck(t, mapOf(pairs("1210", "0210", "1230", text)), right(), left(), api.ErrMti, 2, 1)
		checkCheck(t, mapOf(pairs(text, text)), left(), left(), api.ErrMti, 2, 0)
		checkFault(t, mapOf(pairs("0210", "1210")), left(), right(), message(text), api.ErrMti, 0)
	}
}

// eachMti: all texts of four digits.
func eachMti(do func(m string)) {
	for i := range 10000 {
		do(strconv.Itoa(10000 + i)[1:])
	}
}

func TestCheckOfAllMtis(t *testing.T) {
	a, b := api.Schema{Style: 1, Version: 0}, api.Schema{Style: 2, Version: 1}
	eachMti(func(m string) {
		for _, other := range []string{"0200", "1200", "1210", "0210", "1824", "1499", "2200"} {
			for _, p := range []api.Pair{{From: m, To: other}, {From: other, To: m}, {From: m, To: "1" + m[1:]}} {
				want, part := api.OK, 0
				if p.From[0] != '0' || p.To[0] != '1' || strings.Contains("02", p.From[2:3]) != strings.Contains("02", p.To[2:3]) {
					want, part = api.ErrMti, 2
				}
				checkCheck(t, mapOf([]api.Pair{p}), a, b, want, part, 0)
			}
		}
	})
}

func TestCheckOfVersions(t *testing.T) {
	for from := range 10 {
		for to := range 10 {
			a, b := api.Schema{Style: 1, Version: from}, api.Schema{Style: 1, Version: to}
			for f := range 10 {
				for g := range 10 {
					want, part := api.ErrMti, 2
					if f == from && g == to {
						want, part = api.OK, 0
					}
					checkCheck(t, mapOf(pairs(strconv.Itoa(f)+"804", strconv.Itoa(g)+"824")), a, b, want, part, 0)
				}
			}
		}
	}
}

func TestCheckOfAFromTwice(t *testing.T) {
	for n := 2; n <= 9; n++ {
		for second := 1; second < n; second++ {
			for first := range second {
				l := types(n)
				l[second].From = l[first].From
				checkBetween(t, mapOf(l), api.ErrTwice, 2, second)
				l[second] = l[first]
				checkBetween(t, mapOf(l), api.ErrTwice, 2, second)
				checkBetween(t, mapOf(l, api.Rule{}), api.ErrTwice, 2, second)
				// A To may stand twice.
				l = types(n)
				l[second].To = l[first].To
				checkBetween(t, mapOf(l), api.OK, 0, 0)
			}
		}
	}
	for _, first := range []int{0, 100, 254} {
		l := types(256)
		l[255].From = l[first].From
		if asks(l[255].From) != asks(l[255].To) {
			l[255].To = l[first].To
		}
		checkBetween(t, mapOf(l), api.ErrTwice, 2, 255)
	}
	l := types(256)
	for at := range l {
		l[at].To = "1200"
		if !asks(l[at].From) {
			l[at].To = "1210"
		}
	}
	checkBetween(t, mapOf(l), api.OK, 0, 0)
}

// At one place ErrMti goes ahead; of two places the first one's.
func TestCheckOfPairsTellsTheFirst(t *testing.T) {
	checkBetween(t, mapOf(pairs("0200", "1200", "0200", "0200")), api.ErrMti, 2, 1)
	checkBetween(t, mapOf(pairs("0200", "1200", "0200", "1210")), api.ErrMti, 2, 1)
	checkBetween(t, mapOf(pairs("0200", "1200", "0200", "")), api.ErrMti, 2, 1)
	checkBetween(t, mapOf(pairs("", "1200", "", "1200")), api.ErrMti, 2, 0)
	checkBetween(t, mapOf(pairs("0200", "1200", "0200", "1200", "", "")), api.ErrTwice, 2, 1)
	checkBetween(t, mapOf(pairs("0200", "1200", "", "", "0200", "1200")), api.ErrMti, 2, 1)
	checkBetween(t, mapOf(pairs("0200", "1200", "0210", "1210", "0210", "1210", "0200", "1200")), api.ErrTwice, 2, 2)
	for _, x := range wrongPairs() {
		for _, y := range wrongPairs() {
			for first := range 3 {
				for second := first + 1; second < 4; second++ {
					l := types(4)
					l[first], l[second] = x, y
					checkBetween(t, mapOf(l), api.ErrMti, 2, first)
				}
			}
		}
	}
}

// P21.1: part 3, the rules

// mostRules: as many rules as a map may have: each field is dropped, and each is made of none.
func mostRules() []api.Rule {
	var l []api.Rule
	for no := 2; no <= api.MaxField; no++ {
		l = append(l, drop(no), constant(no, strconv.Itoa(1000 + no)[1:]))
	}
	return l
}

func TestCheckOfManyRules(t *testing.T) {
	a, b := wide(0), wide(1)
	l := mostRules()
	for n := range len(l) {
		checkCheck(t, mapOf(nil, l[:n]...), a, b, api.OK, 0, 0)
	}
	slices.Reverse(l)
	checkCheck(t, mapOf(nil, l...), a, b, api.OK, 0, 0)
	// One more has something that stands ahead.
	for no := 2; no <= api.MaxField; no++ {
		checkCheck(t, mapOf(nil, append(l, drop(no))...), a, b, api.ErrTwice, 3, 254)
		checkCheck(t, mapOf(nil, append(l, constant(no, "123"), copied(no, no))...), a, b, api.ErrTwice, 3, 254)
	}
	checkCheck(t, mapOf(nil, append(l, copied(2, 2), copied(3, 3))...), a, b, api.ErrTwice, 3, 254)
	checkCheck(t, mapOf(nil, append(l, copied(2, 2), copied(3, 3), copied(4, 4))...), a, b, api.ErrRange, 3, 256)
}

func TestCheckOfTooManyRules(t *testing.T) {
	for _, n := range []int{257, 258, 300, 1000} {
		checkBetween(t, mapOf(nil, make([]api.Rule, n)...), api.ErrRange, 3, 256)
		for _, one := range []api.Rule{copied(11, 11), constant(26, "5999"), drop(13), copied(1, 1), copied(39, 39)} {
			for _, at := range []int{0, 1, 255, 256} {
				l := slices.Repeat([]api.Rule{drop(13)}, n)
				l[at] = one
				checkBetween(t, mapOf(nil, l...), api.ErrRange, 3, 256)
				checkBetween(t, mapOf(types(256), l...), api.ErrRange, 3, 256)
				l = make([]api.Rule, n)
				l[at] = one
				checkBetween(t, mapOf(nil, l...), api.ErrRange, 3, 256)
			}
		}
	}
	// Of 256 the first is told of which something isn't so.
	for _, at := range []int{0, 1, 5, 253} {
		l := append(mostRules(), drop(2), drop(3))
		l[at] = api.Rule{}
		checkCheck(t, mapOf(nil, l...), wide(0), wide(1), api.ErrArg, 3, at)
	}
	checkCheck(t, mapOf(nil, append(mostRules(), drop(2), drop(3))...), wide(0), wide(1), api.ErrTwice, 3, 254)
	checkBetween(t, mapOf(nil, make([]api.Rule, 256)...), api.ErrArg, 3, 0)
}

// wrongRules: ones of which layer 20 tells errors from left to right.
var wrongRules = []struct {
	r    api.Rule
	want api.Errno
}{
	{api.Rule{}, api.ErrArg}, {api.Rule{Kind: 6, From: 11, To: 11}, api.ErrArg}, {api.Rule{Kind: -1}, api.ErrArg},
	{drop(0), api.ErrNone}, {drop(26), api.ErrNone}, {drop(-1), api.ErrNone}, {drop(129), api.ErrNone}, {copied(11, 13), api.ErrNone}, {copied(26, 26), api.ErrNone}, {constant(13, "1231"), api.ErrNone}, {constant(0, "1"), api.ErrNone}, {repad(12, 0), api.ErrNone}, {table(0, 39, "00", "000"), api.ErrNone},
	{api.Rule{Kind: api.RConst, From: 11, To: 26, Text: "5999"}, api.ErrNone}, {api.Rule{Kind: api.RDrop, From: 11, To: 11}, api.ErrNone},
	{api.Rule{Kind: api.RCopy, From: 11, To: 11, Text: "x"}, api.ErrForm}, {api.Rule{Kind: api.RDrop, From: 11, Pairs: pairs("a", "b")}, api.ErrForm},
	{copied(39, 39), api.ErrClass}, {copied(12, 12), api.ErrClass}, {repad(2, 2), api.ErrClass}, {constant(26, "599x"), api.ErrClass},
	{constant(26, "599"), api.ErrRange}, {table(39, 39, "00", "00"), api.ErrRange}, {table(39, 39, "0", "000"), api.ErrRange},
	{table(39, 39), api.ErrTable}, {table(39, 39, "00", "000", "00", "000"), api.ErrTable},
}

func TestCheckOfRules(t *testing.T) {
	for _, wrong := range wrongRules {
		checkBetween(t, mapOf(nil, wrong.r), wrong.want, 3, 0)
		for n := range len(usual().Rules) + 1 {
			l := slices.Insert(usual().Rules, n, wrong.r)
			checkBetween(t, mapOf(nil, l...), wrong.want, 3, n)
			checkBetween(t, mapOf(types(3), l...), wrong.want, 3, n)
			checkBetween(t, mapOf(nil, l[n:]...), wrong.want, 3, 0)
		}
		l := append(mostRules(), wrong.r)
		a, b := wide(0), wide(1)
		if err := rule.Check(wrong.r, a, b); err != api.OK {
			checkCheck(t, mapOf(nil, l...), a, b, err, 3, 254)
		}
	}
}

func TestCheckOfRulesTellsTheFirst(t *testing.T) {
	for _, x := range wrongRules {
		for _, y := range wrongRules {
			checkBetween(t, mapOf(nil, x.r, y.r), x.want, 3, 0)
			checkBetween(t, mapOf(nil, copied(63, 63), x.r, drop(64), y.r), x.want, 3, 1)
		}
		checkBetween(t, mapOf(nil, drop(65), drop(65), x.r), api.ErrTwice, 3, 1)
		checkBetween(t, mapOf(nil, drop(65), x.r, drop(65)), x.want, 3, 1)
	}
	// At one place rule.Check's error goes ahead.
	checkBetween(t, mapOf(nil, copied(11, 11), api.Rule{Kind: 7, From: 11, To: 11}), api.ErrArg, 3, 1)
	checkBetween(t, mapOf(nil, copied(11, 11), copied(11, 13)), api.ErrNone, 3, 1)
	checkBetween(t, mapOf(nil, copied(11, 11), copied(26, 11)), api.ErrNone, 3, 1)
	checkBetween(t, mapOf(nil, copied(11, 11), api.Rule{Kind: api.RCopy, From: 11, To: 11, Text: "x"}), api.ErrForm, 3, 1)
	checkBetween(t, mapOf(nil, copied(11, 11), copied(11, 26)), api.ErrClass, 3, 1)
	checkBetween(t, mapOf(nil, copied(11, 11), constant(11, "1")), api.ErrRange, 3, 1)
	checkBetween(t, mapOf(nil, drop(39), table(39, 39)), api.ErrTable, 3, 1)
}

// Each field's number, as a From and as a To.
func TestCheckOfEachFieldTwice(t *testing.T) {
	a, b := wide(0), wide(1)
	for no := 2; no <= api.MaxField; no++ {
		other := no + 1
		if no == api.MaxField {
			other = 2
		}
		for _, l := range [][]api.Rule{
			{drop(no), drop(no)}, {drop(no), copied(no, other)}, {copied(no, other), drop(no)}, {repad(no, other), copied(no, no)}, {table(no, no, "123", "456"), copied(no, other)},
			{constant(no, "123"), constant(no, "123")}, {constant(no, "123"), copied(other, no)}, {copied(other, no), constant(no, "123")}, {table(other, no, "123", "456"), repad(no, no)},
			{copied(no, no), copied(no, no)},
		} {
			checkCheck(t, mapOf(nil, l...), a, b, api.ErrTwice, 3, 1)
			checkCheck(t, mapOf(nil, l[0]), a, b, api.OK, 0, 0)
			checkCheck(t, mapOf(nil, l[1]), a, b, api.OK, 0, 0)
		}
		// A From may be another rule's To, and its own.
		checkCheck(t, mapOf(nil, copied(no, no), drop(other)), a, b, api.OK, 0, 0)
		checkCheck(t, mapOf(nil, constant(no, "123"), drop(no)), a, b, api.OK, 0, 0)
		checkCheck(t, mapOf(nil, drop(no), constant(no, "123")), a, b, api.OK, 0, 0)
		checkCheck(t, mapOf(nil, copied(no, other), copied(other, no)), a, b, api.OK, 0, 0)
		checkCheck(t, mapOf(nil, drop(no), copied(other, no)), a, b, api.OK, 0, 0)
	}
}

func TestCheckOfEachTwoFields(t *testing.T) {
	a, b := wide(0), wide(1)
	for one := 2; one <= api.MaxField; one++ {
		for other := 2; other <= api.MaxField; other++ {
			want, part, at := api.OK, 0, 0
			if one == other {
				want, part, at = api.ErrTwice, 3, 1
			}
			checkCheck(t, mapOf(nil, drop(one), drop(other)), a, b, want, part, at)
			checkCheck(t, mapOf(nil, constant(one, "123"), constant(other, "123")), a, b, want, part, at)
			if want != api.OK {
				at = 2
			}
			checkCheck(t, mapOf(nil, copied(one, 2), constant(3, "123"), copied(other, 4)), a, b, want, part, at)
			checkCheck(t, mapOf(nil, copied(2, one), drop(3), copied(4, other)), a, b, want, part, at)
		}
	}
}

// However many rules stand between.
func TestCheckOfFieldsFarAhead(t *testing.T) {
	for second := 1; second < 254; second += 11 {
		for first := 0; first < second; first += 7 {
			l := mostRules()[:second]
			checkCheck(t, mapOf(nil, append(l, l[first])...), wide(0), wide(1), api.ErrTwice, 3, second)
		}
	}
}

// P21.2

// full: a message of the usual map with a field for each of its rules.
func full() api.Message {
	return message("0200", 2, "4111", 11, "000007", 12, "235959", 13, "1231", 39, "05", 48, "a text", 64, "641", 65, "652", 128, "\x00\x01\x02\x03\x04\x05\x06\xff")
}

func TestTranslate(t *testing.T) {
	// The chapter's example.
	m := mapOf(pairs("0200", "1200"), copied(11, 11), constant(26, "5999"))
	checkMade(t, m, dialect.Acquirer(), dialect.Issuer(), message("0200", 11, "000001"), message("1200", 11, "000001", 26, "5999"))
	checkMade(t, m, dialect.Acquirer(), dialect.Issuer(), message("0200"), message("1200", 26, "5999"))

	all := message("1200", 2, "4111", 3, "000007", 12, "000000235959", 14, "a0", 26, "5999", 39, "100", 64, "652", 65, "641", 128, "\x00\x01\x02\x03\x04\x05\x06\xff")
	checkMade(t, usual(), left(), right(), full(), all)
	for _, one := range [][2]api.Message{
		{message("0200"), message("1200", 14, "a0", 26, "5999")},
		{message("0210"), message("1210", 14, "a0", 26, "5999")},
		{message("0400"), message("1420", 14, "a0", 26, "5999")},
		{message("0420"), message("1420", 14, "a0", 26, "5999")},
		{message("0200", 2, "4"), message("1200", 2, "4", 14, "a0", 26, "5999")},
		{message("0200", 11, "000001"), message("1200", 3, "000001", 14, "a0", 26, "5999")},
		{message("0200", 12, "000000"), message("1200", 12, "000000000000", 14, "a0", 26, "5999")},
		{message("0200", 13, "abcd", 48, "x"), message("1200", 14, "a0", 26, "5999")},
		{message("0200", 39, "0a"), message("1200", 14, "a0", 26, "5999", 39, "100")},
		{message("0200", 64, "640"), message("1200", 14, "a0", 26, "5999", 65, "640")},
		{message("0200", 65, "650"), message("1200", 14, "a0", 26, "5999", 64, "650")},
	} {
		checkMade(t, usual(), left(), right(), one[0], one[1])
	}
}

func TestTranslateByMapsWithoutRules(t *testing.T) {
	m := mapOf(usual().Mtis)
	checkMade(t, m, left(), right(), message("0200"), message("1200"))
	checkFault(t, m, left(), right(), message("0200", 11, "000001"), api.ErrNone, 11)
	checkFault(t, api.Map{}, left(), right(), message("0200"), api.ErrMti, 0)
	// All may be dropped.
	m.Rules = []api.Rule{drop(11), drop(13)}
	checkMade(t, m, left(), right(), message("0210", 11, "000001", 13, "1231"), message("1210"))
	// All may be made of none.
	m.Rules = []api.Rule{constant(128, "01234567"), constant(2, "4")}
	checkMade(t, m, left(), right(), message("0210"), message("1210", 2, "4", 128, "01234567"))
}

// That the map may not be goes ahead of all else, whatever is wrong with it.
func TestTranslateByMapsThatMayNotBe(t *testing.T) {
	list := []api.Message{{}, full(), message("0200"), message("0800"), message("1200"), message("0200", 4, "x"), message("0200", 11, "x"), message("0200", 63, "123"), message("0200", 39, "zz")}
	for _, x := range list {
		for _, m := range append(wrongMaps(), api.Map{}, usual()) {
			for _, s := range wrongSchemas(left()) {
				checkFault(t, m, s, right(), x, api.ErrArg, -1)
				checkFault(t, m, s, s, x, api.ErrArg, -1)
			}
			for _, s := range wrongSchemas(right()) {
				checkFault(t, m, left(), s, x, api.ErrArg, -1)
			}
		}
		for _, m := range wrongMaps() {
			checkFault(t, m, left(), right(), x, api.ErrArg, -1)
			m.Mtis = append(usual().Mtis, m.Mtis...)
			m.Rules = append(usual().Rules, m.Rules...)
			checkFault(t, m, left(), right(), x, api.ErrArg, -1)
		}
		for _, wrong := range wrongRules {
			checkFault(t, mapOf(usual().Mtis, append(usual().Rules, wrong.r)...), left(), right(), x, api.ErrArg, -1)
		}
		for _, wrong := range wrongPairs() {
			checkFault(t, mapOf(append(usual().Mtis, wrong), usual().Rules...), left(), right(), x, api.ErrArg, -1)
		}
		// One that goes the other way.
		checkFault(t, usual(), right(), left(), x, api.ErrArg, -1)
	}
}

func TestTranslateOfMessagesThatMayNotBe(t *testing.T) {
	for _, x := range []struct {
		m     api.Message
		want  api.Errno
		field int
	}{
		{api.Message{}, api.ErrMti, 0}, {message("020"), api.ErrMti, 0}, {message("02a0"), api.ErrMti, 0}, {message("1200"), api.ErrMti, 0}, {message("9200", 4, "x"), api.ErrMti, 0},
		{message("0200", 0, ""), api.ErrOrder, 0}, {message("0200", -1, "x"), api.ErrOrder, -1}, {message("0200", 12, "235959", 11, "000001"), api.ErrOrder, 11}, {message("0200", 11, "000001", 11, "000001"), api.ErrOrder, 11},
		{message("0200", 1, "x"), api.ErrNone, 1}, {message("0200", 26, "5999"), api.ErrNone, 26}, {message("0200", 11, "000001", 129, "x"), api.ErrNone, 129},
		{message("0200", 11, "00001"), api.ErrRange, 11}, {message("0200", 11, "00000x"), api.ErrClass, 11}, {message("0200", 2, ""), api.ErrRange, 2}, {message("0200", 2, "4", 39, ".."), api.ErrClass, 39},
		// They go ahead of there being no pair.
		{message("0800", 11, "x"), api.ErrRange, 11}, {message("0800", 4, "x"), api.ErrNone, 4}, {message("0800", 39, "05", 2, "4"), api.ErrOrder, 2},
		// A fault of a later field goes ahead of what can't become of one.
		{message("0200", 3, "000000", 11, "x"), api.ErrRange, 11}, {message("0200", 3, "000000", 63, "x"), api.ErrRange, 63}, {message("0200", 39, "zz", 64, "abc"), api.ErrClass, 64}, {message("0200", 39, "zz", 65, "123", 64, "123"), api.ErrOrder, 64}, {message("0800", 3, "000000", 127, "123", 130, ""), api.ErrNone, 130},
	} {
		checkFault(t, usual(), left(), right(), x.m, x.want, x.field)
		checkFault(t, mapOf(usual().Mtis), left(), right(), x.m, x.want, x.field)
		checkFault(t, api.Map{}, left(), right(), x.m, x.want, x.field)
	}
}

func TestTranslateOfMtis(t *testing.T) {
	known := map[string]string{"0200": "1200", "0210": "1210", "0420": "1420", "0400": "1420"}
	eachMti(func(m string) {
		if to, ok := known[m]; ok {
			checkMade(t, usual(), left(), right(), message(m, 2, "4"), message(to, 2, "4", 14, "a0", 26, "5999"))
		} else {
			checkFault(t, usual(), left(), right(), message(m, 2, "4"), api.ErrMti, 0)
		}
	})
	l := types(256)
	for at, p := range l {
		checkMade(t, mapOf(l), left(), right(), message(p.From), message(p.To))
		checkFault(t, mapOf(l[:at]), left(), right(), message(p.From), api.ErrMti, 0)
	}
}

// That there is no pair goes ahead of what becomes of the fields.
func TestTranslateTellsTheMtiAheadOfTheFields(t *testing.T) {
	for _, x := range []api.Message{message("0800"), message("0800", 3, "000000"), message("0800", 39, "zz"), message("0800", 2, "4", 63, "123")} {
		checkFault(t, usual(), left(), right(), x, api.ErrMti, 0)
		checkFault(t, mapOf(types(200)), left(), right(), x, api.ErrMti, 0)
	}
}

func TestTranslateOfFieldsThatCant(t *testing.T) {
	checkFault(t, usual(), left(), right(), message("0200", 3, "000000"), api.ErrNone, 3)
	checkFault(t, usual(), left(), right(), message("0200", 2, "4", 63, "123"), api.ErrNone, 63)
	checkFault(t, usual(), left(), right(), message("0200", 127, "123", 128, "01234567"), api.ErrNone, 127)
	checkFault(t, usual(), left(), right(), message("0200", 39, "zz"), api.ErrTable, 39)
	checkFault(t, usual(), left(), right(), message("0210", 13, "1231", 39, "06", 48, "x"), api.ErrTable, 39)
	// A constant isn't a rule of a field, by its To neither.
	checkFault(t, mapOf(usual().Mtis, constant(11, "000001")), left(), right(), message("0200", 11, "000002"), api.ErrNone, 11)
	checkFault(t, mapOf(usual().Mtis, copied(11, 3)), left(), right(), message("0200", 3, "000002"), api.ErrNone, 3)

	// The way back, on which a repad may fail.
	back := mapOf(pairs("1200", "0200"), repad(12, 12), table(39, 39, "000", "00"), copied(11, 11))
	checkMade(t, back, right(), left(), message("1200", 12, "000000235959"), message("0200", 12, "235959"))
	checkFault(t, back, right(), left(), message("1200", 12, "240101235959"), api.ErrRange, 12)
	// Of several the first.
	checkFault(t, back, right(), left(), message("1200", 3, "000000", 12, "240101235959", 39, "100"), api.ErrNone, 3)
	checkFault(t, back, right(), left(), message("1200", 11, "000000", 12, "240101235959", 39, "100"), api.ErrRange, 12)
	checkFault(t, back, right(), left(), message("1200", 11, "000000", 12, "000101235959", 26, "5999", 39, "100"), api.ErrRange, 12)
	checkFault(t, back, right(), left(), message("1200", 11, "000000", 12, "000000235959", 26, "5999", 39, "100"), api.ErrNone, 26)
	checkFault(t, back, right(), left(), message("1200", 11, "000000", 12, "000000235959", 39, "100", 63, "123"), api.ErrTable, 39)
	checkFault(t, back, right(), left(), message("1200", 11, "000000", 12, "000000235959", 39, "000", 63, "123"), api.ErrNone, 63)
}

// Of the fields the first is told, not of the rules.
func TestTranslateTellsTheFirstField(t *testing.T) {
	a, b := wide(0), wide(1)
	for first := 2; first < api.MaxField; first += 3 {
		for _, second := range []int{first + 1, min(first+40, api.MaxField), api.MaxField} {
			x := message("0200", first, "001", second, "002")
			checkFault(t, mapOf(pairs("0200", "1200"), table(second, first, "001", "111"), table(first, second, "002", "111")), a, b, x, api.ErrTable, first)
			checkFault(t, mapOf(pairs("0200", "1200"), table(second, first, "001", "111")), a, b, x, api.ErrNone, first)
			checkFault(t, mapOf(pairs("0200", "1200"), table(second, first, "001", "111"), drop(first)), a, b, x, api.ErrTable, second)
			checkFault(t, mapOf(pairs("0200", "1200"), copied(first, second)), a, b, x, api.ErrNone, second)
		}
	}
}

// By rising numbers, whatever order the rules stand in.
func TestTranslateOfRulesInAnyOrder(t *testing.T) {
	rules := []api.Rule{copied(2, 2), copied(3, 11), copied(11, 3), repad(12, 12), constant(26, "5999"), copied(64, 65), drop(13)}
	x := message("0200", 2, "4", 3, "000003", 11, "000011", 12, "000012", 13, "1231", 64, "064")
	want := message("1200", 2, "4", 3, "000011", 11, "000003", 12, "000000000012", 26, "5999", 65, "064")
	eachOrder(rules, func(l []api.Rule) {
		checkMade(t, mapOf(pairs("0200", "1200"), l...), left(), right(), x, want)
	})
	// As many as there may be.
	a, b := wide(0), wide(1)
	var back []api.Rule
	var all, turned api.Message
	all.Mti, turned.Mti = "0200", "1200"
	for no := 2; no <= api.MaxField; no++ {
		back = append(back, copied(no, 130-no))
		all.Fields = append(all.Fields, api.Value{No: no, Text: strconv.Itoa(1000 + no)[1:]})
		turned.Fields = append(turned.Fields, api.Value{No: no, Text: strconv.Itoa(1130 - no)[1:]})
	}
	checkMade(t, mapOf(pairs("0200", "1200"), back...), a, b, all, turned)
	slices.Reverse(back)
	checkMade(t, mapOf(pairs("0200", "1200"), back...), a, b, all, turned)
	all.Mti = "0210"
	turned = api.Message{Mti: "1210", Fields: all.Fields}
	checkMade(t, mapOf(pairs("0210", "1210"), mostRules()...), a, b, all, turned)
	back = mostRules()
	slices.Reverse(back)
	checkMade(t, mapOf(pairs("0210", "1210"), back...), a, b, message("0210"), turned)
}

// eachOrder: a list in each order that it may stand in.
func eachOrder[T any](list []T, do func(l []T)) {
	var put func(done, rest []T)
	put = func(done, rest []T) {
		if len(rest) == 0 {
			do(done)
		}
		for at := range rest {
			put(append(slices.Clone(done), rest[at]), slices.Delete(slices.Clone(rest), at, at+1))
		}
	}
	put(nil, list)
}

// Each field's number takes its own way.
func TestTranslateOfEachField(t *testing.T) {
	a, b := wide(0), wide(1)
	for from := 2; from <= api.MaxField; from++ {
		x := message("0200", from, "042")
		for _, to := range []int{2, 3, 63, 64, 65, 66, 127, 128, from} {
			checkMade(t, mapOf(pairs("0200", "1200"), copied(from, to)), a, b, x, message("1200", to, "042"))
			checkMade(t, mapOf(pairs("0200", "1200"), constant(to, "777"), drop(from)), a, b, x, message("1200", to, "777"))
			if to != 5 {
				list := []any{5, "555", to, "042"}
				if to < 5 {
					list = []any{to, "042", 5, "555"}
				}
				checkMade(t, mapOf(pairs("0200", "1200"), constant(5, "555"), copied(from, to)), a, b, x, message("1200", list...))
				checkMade(t, mapOf(pairs("0200", "1200"), copied(from, to), constant(5, "555")), a, b, x, message("1200", list...))
			}
		}
	}
}

// P21.2 and P21.3, by a second reader

// someMessages: of left, right and wrong ones.
func someMessages() []api.Message {
	return []api.Message{
		{}, full(), message("0200"), message("0210", 11, "000007"), message("0420", 12, "235959", 39, "00"), message("0800", 11, "000001"), message("1200"), message("0200", 11, "x"),
		message("0200", 3, "000001", 11, "000002"), message("0200", 39, "zz", 64, "123"), message("0200", 64, "123", 65, "456"), message("0200", 63, "123"), message("0200", 2, "4", 128, "01234567"), message("0210", 13, "1231", 48, "x", 127, "127"),
		message("0200", 65, "456", 64, "123"), message("0200", 26, "5999"), message("0200", 3, "000001", 39, "05"), message("0200", 12, "000000"),
	}
}

// poolRules: from left to right, that may be and that may not.
func poolRules() []api.Rule {
	return []api.Rule{
		drop(11), copied(11, 11), copied(11, 3), copied(3, 11), drop(3), repad(12, 12), table(39, 39, "00", "000", "05", "100"), constant(26, "5999"), constant(11, "999999"), copied(64, 65), copied(65, 64), drop(64), copied(2, 2), constant(2, "7"), constant(128, "01234567"), drop(128),
		copied(39, 39), constant(26, "x"), drop(26), {},
	}
}

// eachRules: all lists of up to three of the pool.
func eachRules(do func(l []api.Rule)) {
	pool := poolRules()
	do(nil)
	for _, x := range pool {
		do([]api.Rule{x})
		for _, y := range pool {
			do([]api.Rule{x, y})
			for _, z := range pool {
				do([]api.Rule{x, y, z})
			}
		}
	}
}

func TestMapsOfAllShortListsOfRules(t *testing.T) {
	seen := map[api.Errno]int{}
	eachRules(func(l []api.Rule) {
		seen[checkByReader(t, mapOf(usual().Mtis, l...), left(), right(), someMessages()...)]++
	})
	for _, err := range []api.Errno{api.OK, api.ErrTwice, api.ErrClass, api.ErrRange, api.ErrNone, api.ErrArg} {
		if seen[err] < 200 {
			t.Errorf("too few of a kind: %v", seen)
		}
	}
}

func TestMapsOfAllShortListsOfPairs(t *testing.T) {
	pool := pairs("0200", "1200", "0200", "1220", "0210", "1210", "0210", "1200", "0420", "1420", "1200", "1200", "0800", "0800", "", "", "0210", "1230")
	seen := map[api.Errno]int{}
	for _, x := range pool {
		for _, y := range pool {
			for _, z := range pool {
				l := []api.Pair{x, y, z}
				for n := range 4 {
					seen[checkByReader(t, mapOf(l[:n], usual().Rules...), left(), right(), someMessages()...)]++
					checkByReader(t, mapOf(l[:n], drop(11), drop(11)), left(), right(), full())
				}
			}
		}
	}
	if seen[api.OK] < 100 || seen[api.ErrTwice] < 100 || seen[api.ErrMti] < 100 {
		t.Errorf("too few of a kind: %v", seen)
	}
}

// someOf: of a list those at whose places bits are set.
func someOf[T any](list []T, bits int) []T {
	var l []T
	for at, one := range list {
		if bits>>at&1 == 1 {
			l = append(l, one)
		}
	}
	return l
}

// All choices of the usual rules, with all choices of fields for some of them.
func TestMapsOfAllChoicesOfRules(t *testing.T) {
	all := usual().Rules
	for bits := range 1 << len(all) {
		m := mapOf(usual().Mtis, someOf(all, bits)...)
		x := full()
		few := x
		few.Fields = someOf(x.Fields, bits*7919>>3)
		checkByReader(t, m, left(), right(), x, few, message("0420"))
	}
	for bits := range 1 << len(full().Fields) {
		x := full()
		x.Fields = someOf(x.Fields, bits)
		checkByReader(t, usual(), left(), right(), x)
	}
}

// P21.3

// toOf: the field that one becomes; 0, if it is dropped.
func toOf(m api.Map, from int) int {
	for _, r := range m.Rules {
		if r.From == from {
			return r.To
		}
	}
	return 0
}

// checkFieldByField: what is made is valid, and no field plays a part in what becomes of another one.
func checkFieldByField(t *testing.T, m api.Map, a, b api.Schema, x api.Message) {
	t.Helper()
	y, fault := Translate(m, a, b, x)
	if fault != (api.Fault{}) {
		t.Errorf("Translate(%s) of %s: %v", told(m), said(x), fault)
		return
	}
	if fault := msg.Check(b, y); fault != (api.Fault{}) {
		t.Errorf("Translate(%s) of %s: %s, which isn't valid: %v", told(m), said(x), said(y), fault)
	}
	bytes, fault := wire.Encode(b, y)
	if read, late := strict.Decode(b, bytes); fault != (api.Fault{}) || late != (api.Fault{}) || !msg.Same(read, y) {
		t.Errorf("%s, of %s, doesn't go on as it is: %v, %v", said(y), said(x), fault, late)
	}
	none, _ := Translate(m, a, b, api.Message{Mti: x.Mti})
	for _, one := range x.Fields {
		to := toOf(m, one.No)
		checkMade(t, m, a, b, msg.Without(x, one.No), msg.Without(y, to))
		alone := none
		if text, ok := msg.Get(y, to); ok {
			alone = msg.With(none, to, text)
		}
		checkMade(t, m, a, b, message(x.Mti, one.No, one.Text), alone)
	}
	if len(y.Fields) != len(none.Fields)+msg.Set(x).Len()-dropped(m, x) {
		t.Errorf("Translate(%s) of %s: %s: too few or too many", told(m), said(x), said(y))
	}
}

// dropped: how many of a message's fields are.
func dropped(m api.Map, x api.Message) int {
	n := 0
	for _, one := range x.Fields {
		if toOf(m, one.No) == 0 {
			n++
		}
	}
	return n
}

func TestWhatIsMadeIsValid(t *testing.T) {
	for bits := range 1 << len(full().Fields) {
		x := full()
		x.Fields = someOf(x.Fields, bits)
		checkFieldByField(t, usual(), left(), right(), x)
	}
	done := 0
	eachRules(func(l []api.Rule) {
		m := mapOf(usual().Mtis, l...)
		for _, x := range someMessages() {
			if _, fault := Translate(m, left(), right(), x); fault == (api.Fault{}) {
				done++
				checkFieldByField(t, m, left(), right(), x)
			}
		}
	})
	if done < 5000 {
		t.Errorf("too few: %d", done)
	}
}

// bothWays: from the one built-in dialect to the other one, all that goes on and comes back.
func bothWays() (api.Map, api.Map) {
	there := mapOf(pairs("0200", "1200", "0210", "1210", "0800", "1804"))
	back := mapOf(pairs("1200", "0200", "1210", "0210", "1804", "0800"))
	lossless := dialect.Lossless()
	for no := lossless.Next(0); no != 0; no = lossless.Next(no) {
		one := copied(no, no)
		if rule.Check(one, dialect.Acquirer(), dialect.Issuer()) != api.OK {
			one = repad(no, no)
		}
		there.Rules, back.Rules = append(there.Rules, one), append(back.Rules, one)
	}
	slices.Reverse(back.Rules)
	return there, back
}

// valueOf: one that a field may have.
func valueOf(s api.Spec) string {
	switch s.Class {
	case api.CTlv:
		return "\x9f\x02\x02\x01\x00"
	case api.CLetters:
		return strings.Repeat("x", s.Min)
	}
	return strings.Repeat("7", s.Min)
}

func TestBetweenTheDialects(t *testing.T) {
	there, back := bothWays()
	a, b := dialect.Acquirer(), dialect.Issuer()
	checkCheck(t, there, a, b, api.OK, 0, 0)
	checkCheck(t, back, b, a, api.OK, 0, 0)
	x := message("0800")
	for _, one := range schema.Restrict(a, dialect.Lossless()).Fields {
		x.Fields = append(x.Fields, api.Value{No: one.No, Text: valueOf(one)})
	}
	if msg.Set(x) != dialect.Lossless() {
		t.Errorf("the fields of %s", said(x))
	}
	checkFieldByField(t, there, a, b, x)
	y, _ := Translate(there, a, b, x)
	checkFieldByField(t, back, b, a, y)
	checkMade(t, back, b, a, y, x)
	if msg.Set(y) != msg.Set(x) || y.Mti != "1804" {
		t.Errorf("%s of %s", said(y), said(x))
	}
}

// The rules of the whole

// roomy: the same list, with spare room behind it.
func roomy[T any](list []T, room T) []T {
	return append(slices.Clone(list), room, room, room)[:len(list)]
}

// room: a list and what stands in its spare room.
func room[T any](list []T) []T { return slices.Clone(list[:cap(list)]) }

func TestWhatIsHandedInStays(t *testing.T) {
	turned := usual()
	slices.Reverse(turned.Rules)
	slices.Reverse(turned.Mtis)
	for _, base := range append(wrongMaps(), usual(), turned, api.Map{}) {
		for _, x := range someMessages() {
			m := mapOf(roomy(base.Mtis, pairs("room", "room")[0]), roomy(base.Rules, copied(70, 70))...)
			for at := range m.Rules {
				m.Rules[at].Pairs = roomy(m.Rules[at].Pairs, pairs("room", "room")[0])
			}
			a, b := left(), right()
			a.Fields, b.Fields = roomy(a.Fields, fixed(70, 70)), roomy(b.Fields, fixed(70, 70))
			x.Fields = roomy(x.Fields, api.Value{No: 70, Text: "room"})
			mtis, aSpecs, bSpecs, values := room(m.Mtis), room(a.Fields), room(b.Fields), room(x.Fields)
			rules := room(m.Rules)
			var tables [][]api.Pair
			for _, r := range m.Rules {
				tables = append(tables, room(r.Pairs))
			}
			Check(m, a, b)
			Check(m, b, a)
			Translate(m, a, b, x)
			Translate(m, b, a, x)
			same := slices.Equal(mtis, room(m.Mtis)) && slices.Equal(aSpecs, room(a.Fields)) && slices.Equal(bSpecs, room(b.Fields)) && slices.Equal(values, room(x.Fields)) && slices.EqualFunc(rules, room(m.Rules), sameRule)
			for at, r := range m.Rules {
				same = same && slices.Equal(tables[at], room(r.Pairs))
			}
			if !same {
				t.Errorf("%s, %s: a list that was handed in, or its spare room, was changed", told(m), said(x))
			}
		}
	}
}

func sameRule(x, y api.Rule) bool {
	return x.Kind == y.Kind && x.From == y.From && x.To == y.To && x.Text == y.Text && slices.Equal(x.Pairs, y.Pairs)
}

func TestWhatIsAnsweredIsNewMemory(t *testing.T) {
	copies := mapOf(pairs("0200", "1200"), copied(2, 2), copied(11, 11), copied(128, 128))
	for _, m := range []api.Map{usual(), copies} {
		x := message("0200", 2, "4", 11, "000011", 128, "01234567")
		x.Fields = roomy(x.Fields, api.Value{No: 130, Text: "room"})
		before := room(x.Fields)
		y, fault := Translate(m, left(), right(), x)
		z, _ := Translate(m, left(), right(), x)
		if fault != (api.Fault{}) || !msg.Same(y, z) || len(y.Fields) < 3 {
			t.Errorf("Translate(%s): %s, %v", told(m), said(y), fault)
		}
		// All of the one answer is overwritten, its spare room too.
		all := y.Fields[:cap(y.Fields)]
		for at := range all {
			all[at] = api.Value{No: -1, Text: "overwritten"}
		}
		checkMade(t, m, left(), right(), x, z)
		if !slices.Equal(before, room(x.Fields)) {
			t.Errorf("the answer shares memory with the message")
		}
		// Nor does it change with what was handed in.
		kept := slices.Clone(z.Fields)
		for at := range x.Fields {
			x.Fields[at].Text = "overwritten"
		}
		for at := range m.Rules {
			m.Rules[at] = api.Rule{}
		}
		if !slices.Equal(kept, z.Fields) {
			t.Errorf("the answer hangs on what was handed in")
		}
	}
}

func TestNilAndEmptyListsAreOne(t *testing.T) {
	none, empty := api.Message{Mti: "0200"}, api.Message{Mti: "0200", Fields: []api.Value{}}
	for _, rules := range [][]api.Rule{nil, {}, make([]api.Rule, 0, 3), {constant(26, "5999")}, {drop(11)}} {
		for _, mtis := range [][]api.Pair{nil, {}, make([]api.Pair, 0, 3), pairs("0200", "1200")} {
			m := api.Map{Mtis: mtis, Rules: rules}
			checkBetween(t, m, api.OK, 0, 0)
			checkByReader(t, m, left(), right(), none, empty)
		}
	}
	a, b := api.Schema{Style: 1, Fields: []api.Spec{}}, api.Schema{Style: 2, Version: 1, Fields: []api.Spec{}}
	for range 2 {
		for _, m := range []api.Map{{}, mapOf(pairs("0200", "1200")), mapOf(pairs("0200", "1200"), drop(11)), usual()} {
			checkByReader(t, m, a, b, none, empty, full())
		}
		a.Fields, b.Fields = nil, nil
	}
	for _, r := range []api.Rule{copied(11, 11), drop(11), constant(26, "5999"), repad(12, 12), table(39, 39)} {
		r.Pairs = []api.Pair{}
		filled := r
		filled.Pairs = nil
		want, part, at := Check(mapOf(nil, filled), left(), right())
		checkBetween(t, mapOf(nil, r), want, part, at)
	}
}

// What was told once tells nothing of what comes behind it.
func TestNothingIsKept(t *testing.T) {
	m := usual()
	for range 3 {
		checkBetween(t, m, api.OK, 0, 0)
		checkMade(t, m, left(), right(), message("0200", 11, "000001"), message("1200", 3, "000001", 14, "a0", 26, "5999"))
		m.Rules[7] = copied(11, 11)
		checkMade(t, m, left(), right(), message("0200", 11, "000001"), message("1200", 11, "000001", 14, "a0", 26, "5999"))
		m.Rules[7] = drop(13)
		checkBetween(t, m, api.ErrTwice, 3, 7)
		checkFault(t, m, left(), right(), message("0200", 11, "000001"), api.ErrArg, -1)
		m.Rules[7] = copied(11, 3)
		m.Mtis[0].To = "1220"
		checkMade(t, m, left(), right(), message("0200"), message("1220", 14, "a0", 26, "5999"))
		m.Mtis[0].To = "1200"
	}
}

func TestLongListsEnd(t *testing.T) {
	many := mapOf(make([]api.Pair, 1<<20), make([]api.Rule, 1<<18)...)
	checkBetween(t, many, api.ErrRange, 2, 256)
	checkFault(t, many, left(), right(), full(), api.ErrArg, -1)
	many.Mtis = nil
	checkBetween(t, many, api.ErrRange, 3, 256)
	x := api.Message{Mti: "0200", Fields: make([]api.Value, 1<<20)}
	checkFault(t, usual(), left(), right(), x, api.ErrOrder, 0)
	long := strings.Repeat("0200", 1<<18)
	checkBetween(t, mapOf(pairs(long, long)), api.ErrMti, 2, 0)
	checkFault(t, usual(), left(), right(), message(long), api.ErrMti, 0)
	checkFault(t, usual(), left(), right(), message("0200", 48, long), api.ErrRange, 48)
	a := left()
	a.Fields = append(a.Fields, make([]api.Spec, 1<<18)...)
	checkCheck(t, usual(), a, right(), api.ErrArg, 1, 0)
}

// Fields' sets know no other numbers than the schemas' fields have.
func TestSetsOfWhatIsMade(t *testing.T) {
	y, _ := Translate(usual(), left(), right(), full())
	if msg.Set(y) != fields.Of(2, 3, 12, 14, 26, 39, 64, 65, 128) {
		t.Errorf("made: %s", said(y))
	}
}

func FuzzMaps(f *testing.F) {
	f.Add("0200 1200 0210 1210", "\x01\x0b\x0b\x03\x00\x1a", "5999", "0200", 11, "000001", 39, "05")
	f.Add("0200 1200 0200 1220", "\x04\x0c\x0c\x05\x27\x27", "000", "0200", 12, "235959", 64, "123")
	f.Fuzz(func(t *testing.T, types, rules, text, mti string, one int, value string, other int, late string) {
		w := strings.Split(types, " ")
		if len(w) > 600 || len(rules) > 900 {
			return
		}
		m := mapOf(pairs(w[:len(w)/2*2]...))
		for ; len(rules) >= 3; rules = rules[3:] {
			r := api.Rule{Kind: int(rules[0]), From: int(rules[1]), To: int(rules[2])}
			switch r.Kind {
			case api.RConst:
				r.Text = text
			case api.RTable:
				r.Pairs = pairs(value, text)
			}
			m.Rules = append(m.Rules, r)
		}
		list := []api.Message{message(mti), message(mti, one, value), message(mti, one, value, other, late), message(mti, other, value)}
		checkByReader(t, m, left(), right(), list...)
		checkByReader(t, m, wide(0), wide(1), list...)
		checkByReader(t, m, right(), left(), list...)
	})
}
