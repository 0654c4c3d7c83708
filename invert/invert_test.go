package invert

import (
	"math"
	"slices"
	"strconv"
	"strings"
	"testing"

	"groat/api"
	"groat/dialect"
	"groat/msg"
	"groat/schema"
	"groat/spec"
	"groat/strict"
	"groat/wire"
	"groat/xlate"
)

func of(no, class, form, least, greatest int) api.Spec {
	return api.Spec{No: no, Class: class, Form: form, Min: least, Max: greatest}
}

// fixed: so many digits.
func fixed(no, width int) api.Spec { return of(no, api.CDigits, api.FFixed, width, width) }

// left: the one schema. 63 to 65 stand where sets of fields are parted, 2 and 128 at their ends.
func left() api.Schema {
	return api.Schema{Style: api.SAscii, Version: 0, Fields: []api.Spec{
		of(2, api.CDigits, api.FTwo, 1, 19),
		fixed(3, 6),
		fixed(11, 6),
		fixed(12, 6),
		of(13, api.CAlnum, api.FFixed, 4, 4),
		fixed(22, 3),
		of(39, api.CAlnum, api.FFixed, 2, 2),
		of(48, api.CPrint, api.FThree, 1, 999),
		of(55, api.CTlv, api.FThree, 1, 255),
		fixed(64, 3),
		fixed(65, 3),
		fixed(127, 12),
		of(128, api.CBytes, api.FFixed, 8, 8),
	}}
}

// right: the other one. 13 stands in left alone, 14, 26, 43 and 63 here alone; 3 is of another form.
func right() api.Schema {
	return api.Schema{Style: api.SBinary, Version: 1, Fields: []api.Spec{
		of(2, api.CDigits, api.FTwo, 1, 19),
		of(3, api.CDigits, api.FTwo, 6, 6),
		fixed(11, 6),
		fixed(12, 12),
		fixed(14, 6),
		of(22, api.CAlnum, api.FFixed, 12, 12),
		fixed(26, 4),
		fixed(39, 3),
		of(43, api.CPrint, api.FTwo, 1, 99),
		of(48, api.CPrint, api.FThree, 1, 999),
		of(55, api.CTlv, api.FThree, 1, 255),
		of(63, api.CBytes, api.FThree, 1, 255),
		fixed(64, 3),
		fixed(65, 3),
		fixed(127, 6),
		of(128, api.CBytes, api.FFixed, 8, 8),
	}}
}

// wide: a schema with each field that there may be, of three digits.
func wide(version int) api.Schema {
	s := api.Schema{Style: api.SAscii, Version: version}
	for no := 2; no <= api.MaxField; no++ {
		s.Fields = append(s.Fields, fixed(no, 3))
	}
	return s
}

// only: a schema of one field.
func only(version int, one api.Spec) api.Schema {
	return api.Schema{Style: api.SAscii, Version: version, Fields: []api.Spec{one}}
}

func pairs(fromsAndTos ...string) []api.Pair {
	var l []api.Pair
	for i := 0; i < len(fromsAndTos); i += 2 {
		l = append(l, api.Pair{From: fromsAndTos[i], To: fromsAndTos[i+1]})
	}
	return l
}

// types: so many pairs of MTIs from version 0 to version 1 that don't ask, of which no two have the same To.
func types(n int) []api.Pair {
	var l []api.Pair
	for i := 1000; len(l) < n; i++ {
		if rest := strconv.Itoa(i)[1:]; strings.Contains("13456789", rest[1:2]) {
			l = append(l, api.Pair{From: "0" + rest, To: "1" + rest})
		}
	}
	return l
}

// sameTo: the pairs, of which the one at second has the To of the one at first.
func sameTo(l []api.Pair, first, second int) []api.Pair {
	l = slices.Clone(l)
	l[second].To = l[first].To
	return l
}

func drop(from int) api.Rule { return api.Rule{Kind: api.RDrop, From: from} }

func copied(from, to int) api.Rule { return api.Rule{Kind: api.RCopy, From: from, To: to} }

func repad(from, to int) api.Rule { return api.Rule{Kind: api.RRepad, From: from, To: to} }

func constant(to int, text string) api.Rule {
	return api.Rule{Kind: api.RConst, To: to, Text: text}
}

func table(from, to int, fromsAndTos ...string) api.Rule {
	return api.Rule{Kind: api.RTable, From: from, To: to, Pairs: pairs(fromsAndTos...)}
}

func mapOf(mtis []api.Pair, rules ...api.Rule) api.Map { return api.Map{Mtis: mtis, Rules: rules} }

// asked: the pairs of MTIs that most maps here have.
func asked() []api.Pair {
	return pairs("0200", "1200", "0210", "1210", "0800", "1804", "0420", "1420")
}

// usual: a map from left to right by which nothing gets lost, with rules of each kind of which there is such a one, in no order.
func usual() api.Map {
	return mapOf(asked(),
		table(39, 39, "00", "000", "05", "100", "0a", "909"),
		copied(128, 128),
		copied(65, 64),
		repad(64, 65),
		repad(12, 12),
		copied(11, 14),
		copied(3, 3),
		table(22, 22, "051", "510101511344", "021", "210101211344", "012", "100140100110"),
		copied(2, 2),
		copied(48, 48),
		copied(55, 55),
	)
}

// message: an MTI, and a number and a text of each field.
func message(mti string, list ...any) api.Message {
	m := api.Message{Mti: mti}
	for i := 0; i < len(list); i += 2 {
		m.Fields = append(m.Fields, api.Value{No: list[i].(int), Text: list[i+1].(string)})
	}
	return m
}

// full: a message with a field for each of the usual map's rules.
func full() api.Message {
	return message("0200", 2, "4111", 3, "000000", 11, "000007", 12, "035959", 22, "021", 39, "05", 48, " a text", 55, "\x9f\x02\x02\x01\x00\x5a\x00", 64, "001", 65, "652", 128, "\x00\x01\x02\x03\x04\x05\x06\xff")
}

// told: a map in few signs, since it may be long.
func told(m api.Map) string {
	s := "map of"
	for _, p := range m.Mtis[:min(len(m.Mtis), 5)] {
		s += " " + strconv.Quote(p.From[:min(len(p.From), 10)]) + ">" + strconv.Quote(p.To[:min(len(p.To), 10)])
	}
	s += " (" + strconv.Itoa(len(m.Mtis)) + " pairs);"
	for _, r := range m.Rules[:min(len(m.Rules), 12)] {
		s += " " + strconv.Itoa(r.Kind) + ":" + strconv.Itoa(r.From) + ">" + strconv.Itoa(r.To)
	}
	return s + " (" + strconv.Itoa(len(m.Rules)) + " rules)"
}

// said: a message in few signs.
func said(x api.Message) string {
	s := strconv.Quote(x.Mti[:min(len(x.Mti), 10)])
	for _, one := range x.Fields[:min(len(x.Fields), 20)] {
		s += " " + strconv.Itoa(one.No) + ":" + strconv.Quote(one.Text[:min(len(one.Text), 20)])
	}
	return s
}

func sameRule(x, y api.Rule) bool {
	return x.Kind == y.Kind && x.From == y.From && x.To == y.To && x.Text == y.Text && slices.Equal(x.Pairs, y.Pairs)
}

func sameMap(x, y api.Map) bool {
	return slices.Equal(x.Mtis, y.Mtis) && slices.EqualFunc(x.Rules, y.Rules, sameRule)
}

// A second reader of the chapter.

// differ: do no two pairs have the same To?
func differ(l []api.Pair) bool {
	tos := map[string]bool{}
	for _, p := range l {
		tos[p.To] = true
	}
	return len(tos) == len(l)
}

// specOf: that of a field of a schema that may be.
func specOf(s api.Schema, no int) api.Spec {
	for _, one := range s.Fields {
		if one.No == no {
			return one
		}
	}
	return api.Spec{}
}

func wantKeeps(r api.Rule, from, to api.Spec) bool {
	switch r.Kind {
	case api.RCopy:
		// Of two that may be each is wider than the other one just if they have the same class and the same lengths.
		return from.Class == to.Class && from.Min == to.Min && from.Max == to.Max
	case api.RRepad:
		return from.Max <= to.Max
	case api.RTable:
		return differ(r.Pairs)
	}
	return false
}

func wantCheck(m api.Map, a, b api.Schema) bool {
	if err, _, _ := xlate.Check(m, a, b); err != api.OK {
		return false
	}
	for _, r := range m.Rules {
		if !wantKeeps(r, specOf(a, r.From), specOf(b, r.To)) {
			return false
		}
	}
	return differ(m.Mtis)
}

func otherWay(l []api.Pair) []api.Pair {
	var out []api.Pair
	for i := range l {
		out = append(out, api.Pair{From: l[i].To, To: l[i].From})
	}
	return out
}

func wantTurn(m api.Map) api.Map {
	turned := api.Map{Mtis: otherWay(m.Mtis)}
	for _, r := range m.Rules {
		r.From, r.To, r.Pairs = r.To, r.From, otherWay(r.Pairs)
		turned.Rules = append(turned.Rules, r)
	}
	return turned
}

// wantFault: why a valid message becomes nothing by a map by which nothing gets lost; the zero one, if it becomes something.
func wantFault(m api.Map, x api.Message) api.Fault {
	if !slices.ContainsFunc(m.Mtis, func(p api.Pair) bool { return p.From == x.Mti }) {
		return api.Fault{Err: api.ErrMti, Field: 0}
	}
	for _, one := range x.Fields {
		at := slices.IndexFunc(m.Rules, func(r api.Rule) bool { return r.From == one.No })
		if at < 0 {
			return api.Fault{Err: api.ErrNone, Field: one.No}
		}
		r := m.Rules[at]
		if r.Kind == api.RTable && !slices.ContainsFunc(r.Pairs, func(p api.Pair) bool { return p.From == one.Text }) {
			return api.Fault{Err: api.ErrTable, Field: one.No}
		}
	}
	return api.Fault{}
}

// Checks

func checkCheck(t *testing.T, m api.Map, a, b api.Schema, want bool) {
	t.Helper()
	if got := Check(m, a, b); got != want {
		err, part, at := xlate.Check(m, a, b)
		t.Errorf("Check(%s): %v; want %v (layer 21: %d, %d, %d)", told(m), got, want, err, part, at)
	}
}

// checkKept: nothing gets lost, and so the map turned may go the other way, by which nothing gets lost just if no digits were added.
func checkKept(t *testing.T, m api.Map, a, b api.Schema) {
	t.Helper()
	checkCheck(t, m, a, b, true)
	turned := Turn(m)
	if err, part, at := xlate.Check(turned, b, a); err != api.OK {
		t.Errorf("%s, turned, may not go: %d, %d, %d", told(m), err, part, at)
	}
	same := true
	for _, r := range m.Rules {
		same = same && (r.Kind != api.RRepad || specOf(a, r.From).Min == specOf(b, r.To).Min)
	}
	checkCheck(t, turned, b, a, same)
}

// checkLost: the map may be, but something gets lost.
func checkLost(t *testing.T, m api.Map, a, b api.Schema) {
	t.Helper()
	if err, part, at := xlate.Check(m, a, b); err != api.OK {
		t.Errorf("%s may not be: %d, %d, %d", told(m), err, part, at)
	}
	checkCheck(t, m, a, b, false)
}

// checkMayNot: the map may not be, by that part of it.
func checkMayNot(t *testing.T, m api.Map, a, b api.Schema, part int) {
	t.Helper()
	if err, in, at := xlate.Check(m, a, b); err == api.OK || in != part {
		t.Errorf("%s: layer 21 tells %d, %d, %d; want part %d", told(m), err, in, at, part)
	}
	checkCheck(t, m, a, b, false)
}

func checkTurn(t *testing.T, m api.Map) {
	t.Helper()
	turned := Turn(m)
	if !sameMap(turned, wantTurn(m)) {
		t.Errorf("Turn(%s): %s", told(m), told(turned))
	}
	if again := Turn(turned); !sameMap(again, m) {
		t.Errorf("Turn(%s), twice: %s", told(m), told(again))
	}
}

// checkBack: by a map by which nothing gets lost a valid message becomes something just where it should, and then itself again, as a message and as bytes. Answered: whether it became something.
func checkBack(t *testing.T, m api.Map, a, b api.Schema, x api.Message) bool {
	t.Helper()
	if fault := msg.Check(a, x); fault != (api.Fault{}) {
		t.Errorf("%s isn't valid: %v", said(x), fault)
		return false
	}
	want := wantFault(m, x)
	y, fault := xlate.Translate(m, a, b, x)
	if fault != want {
		t.Errorf("%s by %s: %s, %v; want %v", said(x), told(m), said(y), fault, want)
		return false
	}
	if want != (api.Fault{}) {
		return false
	}
	turned := Turn(m)
	if again, fault := xlate.Translate(turned, b, a, y); fault != (api.Fault{}) || !msg.Same(again, x) {
		t.Errorf("%s by %s: %s, and then %s, %v", said(x), told(m), said(y), said(again), fault)
	}
	came, _ := wire.Encode(a, x)
	goes, fault := wire.Encode(b, y)
	read, late := strict.Decode(b, goes)
	back, _ := xlate.Translate(turned, b, a, read)
	if bytes, last := wire.Encode(a, back); fault != (api.Fault{}) || late != (api.Fault{}) || last != (api.Fault{}) || bytes != came {
		t.Errorf("%s by %s: %q, and then %q, %v, %v, %v; want %q", said(x), told(m), goes, bytes, fault, late, last, came)
	}
	return true
}

// checkGoes: as checkBack, of what becomes something.
func checkGoes(t *testing.T, m api.Map, a, b api.Schema, x api.Message) {
	t.Helper()
	if !checkBack(t, m, a, b, x) {
		t.Errorf("%s by %s: nothing", said(x), told(m))
	}
}

// checkNothing: a valid message that becomes nothing.
func checkNothing(t *testing.T, m api.Map, a, b api.Schema, x api.Message, want api.Errno, field int) {
	t.Helper()
	checkBack(t, m, a, b, x)
	if y, fault := xlate.Translate(m, a, b, x); fault != (api.Fault{Err: want, Field: field}) {
		t.Errorf("%s by %s: %s, %v; want %d (%d)", said(x), told(m), said(y), fault, want, field)
	}
}

// P22.1: what Check tells of what layer 21 tells

func TestExamples(t *testing.T) {
	a, b := dialect.Acquirer(), dialect.Issuer()
	checkKept(t, mapOf(nil, copied(2, 2), repad(12, 12)), a, b)
	checkLost(t, mapOf(nil, drop(13)), a, b)
	checkLost(t, mapOf(nil, copied(2, 2), repad(12, 12), drop(13)), a, b)
	checkLost(t, mapOf(nil, drop(13), copied(2, 2), repad(12, 12)), a, b)
}

func TestCheckOfMapsWithNothing(t *testing.T) {
	none := api.Schema{Style: api.SBinary, Version: 1}
	for _, m := range []api.Map{{}, {Mtis: []api.Pair{}, Rules: []api.Rule{}}} {
		for _, a := range []api.Schema{left(), wide(0), dialect.Acquirer(), none} {
			for _, b := range []api.Schema{right(), wide(1), dialect.Issuer(), none, a} {
				checkKept(t, m, a, b)
				checkKept(t, m, b, a)
			}
		}
	}
	checkKept(t, usual(), left(), right())
	checkKept(t, mapOf(asked()), left(), right())
	checkKept(t, mapOf(nil, usual().Rules...), left(), right())
}

// wrongSchemas: ones of which layer 13 tells errors, from one that may be.
func wrongSchemas(s api.Schema) []api.Schema {
	var list []api.Schema
	spoil := func(by func(s *api.Schema)) {
		one := api.Schema{Style: s.Style, Version: s.Version, Fields: slices.Clone(s.Fields)}
		by(&one)
		list = append(list, one)
	}
	for _, style := range []int{-1, 0, 3, 1<<32 + 1} {
		spoil(func(s *api.Schema) { s.Style = style })
	}
	for _, version := range []int{math.MinInt, -1, 10, 1 << 32} {
		spoil(func(s *api.Schema) { s.Version = version })
	}
	last := len(s.Fields) - 1
	spoil(func(s *api.Schema) { s.Fields[0].No = 1 })
	spoil(func(s *api.Schema) { s.Fields[last].No = 129 })
	spoil(func(s *api.Schema) { s.Fields[last].Class = 0 })
	spoil(func(s *api.Schema) { s.Fields[last].Min = 0 })
	spoil(func(s *api.Schema) { s.Fields[last].Form = 4 })
	spoil(func(s *api.Schema) { s.Fields = append(s.Fields, s.Fields[last]) })
	spoil(func(s *api.Schema) { s.Fields = append(s.Fields, fixed(2, 1)) })
	return append(list, api.Schema{})
}

// All else would do: no rule takes or makes what is wrong.
func TestCheckOfSchemas(t *testing.T) {
	for _, m := range []api.Map{{}, mapOf(nil, copied(11, 14)), mapOf(nil, repad(12, 12)), mapOf(nil, usual().Rules[0])} {
		for _, a := range wrongSchemas(left()) {
			checkMayNot(t, m, a, right(), 1)
			for _, b := range wrongSchemas(right()) {
				checkMayNot(t, m, a, b, 1)
			}
		}
		for _, b := range wrongSchemas(right()) {
			checkMayNot(t, m, left(), b, 1)
		}
	}
	for _, a := range wrongSchemas(left()) {
		checkMayNot(t, usual(), a, right(), 1)
	}
	for _, b := range wrongSchemas(right()) {
		checkMayNot(t, usual(), left(), b, 1)
	}
}

func TestCheckOfPairsThatMayNotBe(t *testing.T) {
	wrong := pairs(
		"", "", "0230", "", "", "1230", "023", "1230", "0230", "123", "02300", "1230", "0230", "12300", "02a0", "1230", "0230", "12a0", "023\xb0", "1230",
		"1230", "1230", "0230", "0230", "2230", "1230", "0230", "9230", "1230", "0230",
		"0230", "1220", "0220", "1230", "0400", "1410", "0410", "1400", "0230", "1900",
		"0200", "1220", "0800", "1820", "0210", "1230",
	)
	for _, p := range wrong {
		checkMayNot(t, mapOf(append(asked(), p)), left(), right(), 2)
		checkMayNot(t, mapOf(append(asked(), p), usual().Rules...), left(), right(), 2)
		for at := range 5 {
			checkMayNot(t, mapOf(slices.Insert(asked(), at, p), copied(2, 2)), left(), right(), 2)
		}
		// One pair alone never stands twice.
		if at := slices.IndexFunc(asked(), func(q api.Pair) bool { return q.From == p.From }); at < 0 {
			checkMayNot(t, mapOf([]api.Pair{p}), left(), right(), 2)
		}
	}
}

func TestCheckOfCountsOfPairs(t *testing.T) {
	for _, n := range []int{0, 1, 2, 3, 100, 255, 256} {
		checkKept(t, mapOf(types(n)), left(), right())
		checkKept(t, mapOf(types(n), usual().Rules...), left(), right())
	}
	for _, n := range []int{257, 258, 300, 512, 799} {
		checkMayNot(t, mapOf(types(n)), left(), right(), 2)
		checkMayNot(t, mapOf(types(n), usual().Rules...), left(), right(), 2)
	}
}

// wrongRules: ones of which layer 20 tells errors from left to right, though by none of them something seems to get lost.
func wrongRules() []api.Rule {
	withText, withPairs := copied(11, 14), copied(11, 14)
	withText.Text = "x"
	withPairs.Pairs = pairs("a", "b")
	repadText, repadPairs := repad(12, 12), repad(12, 12)
	repadText.Text = "0"
	repadPairs.Pairs = pairs("a", "b")
	tableText := usual().Rules[0]
	tableText.Text = "000"
	var many []string
	for i := range 257 {
		many = append(many, strconv.Itoa(1000 + i)[1:], strconv.Itoa(1257 - i)[1:])
	}
	return []api.Rule{
		{}, {Kind: -1, From: 11, To: 14}, {Kind: 6, From: 11, To: 14}, {Kind: math.MaxInt, From: 12, To: 12}, {Kind: 1<<32 + api.RCopy, From: 11, To: 14},
		{Kind: api.RDrop}, {Kind: api.RConst},
		copied(0, 0), copied(11, 0), copied(0, 14), copied(14, 14), copied(11, 13), copied(129, 129), copied(-1, -1), repad(0, 0), repad(12, 13), repad(14, 14), table(39, 0, "00", "000"), table(39, 13, "00", "abcd"), table(14, 39, "000000", "000"),
		withText, withPairs, repadText, repadPairs, tableText,
		copied(12, 12), copied(39, 39), copied(48, 43), copied(13, 39),
		repad(2, 2), repad(3, 3), repad(13, 12), repad(12, 22), repad(128, 128), repad(39, 39), repad(12, 2), repad(12, 43),
		table(39, 39), table(39, 39, "00", "000", "00", "100"), table(39, 39, "00", "000", "0", "100"), table(39, 39, "00", "000", "05", "1000"), table(39, 39, "00", "00a"), table(39, 39, "0.", "000"), table(55, 64, "\x5a", "000"), table(64, 65, many...),
	}
}

func TestCheckOfRulesThatMayNotBe(t *testing.T) {
	for _, r := range wrongRules() {
		checkMayNot(t, mapOf(nil, r), left(), right(), 3)
		checkMayNot(t, mapOf(asked(), r), left(), right(), 3)
		rest := usual().Rules
		for at := range len(rest) + 1 {
			checkMayNot(t, mapOf(asked(), slices.Insert(usual().Rules, at, r)...), left(), right(), 3)
		}
	}
}

// Two rules for one field: by each alone nothing gets lost.
func TestCheckOfRulesForOneField(t *testing.T) {
	a, b := wide(0), wide(1)
	for _, no := range []int{2, 3, 63, 64, 65, 66, 127, 128} {
		for _, other := range []int{5, 62, 67, 126} {
			for _, x := range []api.Rule{copied(no, no), repad(no, no), table(no, no, "123", "456")} {
				for _, y := range []api.Rule{copied(no, other), repad(no, other), table(no, other, "001", "002"), copied(other, no), repad(other, no), table(other, no, "001", "002"), copied(no, no)} {
					checkKept(t, mapOf(nil, x), a, b)
					checkKept(t, mapOf(nil, y), a, b)
					checkMayNot(t, mapOf(nil, x, y), a, b, 3)
					checkMayNot(t, mapOf(nil, y, x), a, b, 3)
					checkMayNot(t, mapOf(nil, copied(9, 10), x, repad(10, 9), y), a, b, 3)
				}
			}
			checkKept(t, mapOf(nil, copied(no, other), copied(other, no)), a, b)
		}
	}
}

// rulesOfAll: a rule for each field of the wide schemas, each to another one.
func rulesOfAll() []api.Rule {
	var l []api.Rule
	for no := 2; no <= api.MaxField; no++ {
		to := api.MaxField + 2 - no
		switch no % 3 {
		case 0:
			l = append(l, copied(no, to))
		case 1:
			l = append(l, repad(no, to))
		case 2:
			l = append(l, table(no, to, "001", "100", "002", "200"))
		}
	}
	return l
}

func TestCheckOfManyRules(t *testing.T) {
	a, b := wide(0), wide(1)
	all := rulesOfAll()
	for n := range len(all) + 1 {
		checkKept(t, mapOf(types(n), all[:n]...), a, b)
	}
	checkMayNot(t, mapOf(nil, append(all, all[0])...), a, b, 3)
	checkMayNot(t, mapOf(nil, slices.Repeat(all, 3)...), a, b, 3)
	checkMayNot(t, mapOf(nil, make([]api.Rule, 257)...), a, b, 3)
	for _, at := range []int{0, 1, 62, 63, 64, 125, 126} {
		for _, lossy := range []api.Rule{drop(all[at].From), constant(all[at].To, "123"), table(all[at].From, all[at].To, "001", "100", "002", "100")} {
			l := slices.Clone(all)
			l[at] = lossy
			checkLost(t, mapOf(types(3), l...), a, b)
		}
	}
}

// P22.1: pairs of MTIs

func TestCheckOfPairsWithTheSameTo(t *testing.T) {
	checkLost(t, mapOf(pairs("0200", "1200", "0400", "1200")), left(), right())
	checkLost(t, mapOf(pairs("0210", "1210", "0430", "1210")), left(), right())
	checkLost(t, mapOf(append(asked(), pairs("0400", "1420")...), usual().Rules...), left(), right())
	checkLost(t, mapOf(append(pairs("0400", "1420"), asked()...), usual().Rules...), left(), right())
	checkLost(t, mapOf(append(asked(), pairs("0220", "1200")...)), left(), right())
	checkLost(t, mapOf(append(asked(), pairs("0220", "1200")...), copied(2, 2)), left(), right())
	for n := 2; n <= 8; n++ {
		for second := range n {
			for first := range second {
				checkLost(t, mapOf(sameTo(types(n), first, second), usual().Rules...), left(), right())
			}
		}
	}
	for _, n := range []int{255, 256} {
		for _, first := range []int{0, 1, 127, n - 2} {
			for second := first + 1; second < n; second += 1 + second%7 {
				checkLost(t, mapOf(sameTo(types(n), first, second)), left(), right())
			}
			checkLost(t, mapOf(sameTo(types(n), first, n-1)), left(), right())
		}
	}
}

// A To may be what another pair has as From, where both sides are of one version.
func TestCheckOfPairsOfOneVersion(t *testing.T) {
	checkKept(t, mapOf(pairs("0200", "0200", "0210", "0210"), copied(2, 2)), left(), left())
	checkKept(t, mapOf(pairs("0200", "0400", "0400", "0800", "0800", "0200")), left(), left())
	checkKept(t, mapOf(pairs("0200", "0400", "0400", "0200"), copied(64, 65), copied(65, 64)), left(), left())
	checkLost(t, mapOf(pairs("0200", "0400", "0400", "0800", "0800", "0400")), left(), left())
	checkLost(t, mapOf(pairs("0200", "0400", "0400", "0400")), left(), left())
}

// P22.1: rules

// lossyRules: ones that may go from left to right, by which something gets lost.
func lossyRules() []api.Rule {
	return []api.Rule{
		drop(13), constant(26, "5999"), constant(63, "\x00"), drop(127),
		// To alone is wider: by its lengths, its class, as bytes of what was a list.
		copied(13, 43), copied(13, 63), copied(127, 43), copied(127, 63),
		repad(127, 127), repad(127, 26),
		table(13, 43, "abcd", "x", "abce", "x"), table(127, 26, "000000000001", "0001", "000000000002", "0002", "000000000003", "0001"),
	}
}

func TestCheckOfEachLossyRule(t *testing.T) {
	for _, r := range lossyRules() {
		checkLost(t, mapOf(nil, r), left(), right())
		checkLost(t, mapOf(asked(), r), left(), right())
		for at := range len(usual().Rules) + 1 {
			l := slices.Insert(usual().Rules, at, r)
			checkLost(t, mapOf(asked(), l...), left(), right())
			checkLost(t, mapOf(nil, l[at:]...), left(), right())
			checkLost(t, mapOf(nil, l[:at+1]...), left(), right())
		}
	}
	checkLost(t, mapOf(asked(), drop(13), constant(26, "5999")), left(), right())
	checkLost(t, mapOf(asked(), constant(26, "5999"), constant(43, " "), drop(13), drop(127)), left(), right())
}

// Drops and constants of each field, also such as look like the two ends of one rule.
func TestCheckOfDropsAndConstants(t *testing.T) {
	a, b := wide(0), wide(1)
	for no := 2; no <= api.MaxField; no++ {
		checkLost(t, mapOf(nil, drop(no)), a, b)
		checkLost(t, mapOf(nil, constant(no, "123")), a, b)
		checkLost(t, mapOf(nil, drop(no), constant(no, "123")), a, b)
		checkKept(t, mapOf(nil, copied(no, no)), a, b)
	}
	// Even of a field of which there is one value.
	one := only(0, of(2, api.CTlv, api.FTwo, 1, 1))
	checkLost(t, mapOf(nil, drop(2)), one, right())
}

// eachSpec: of all classes and forms, and of lengths of which some are within others.
func eachSpec(no int) []api.Spec {
	var list []api.Spec
	for class := 1; class <= api.Classes; class++ {
		for form := 1; form <= api.Forms; form++ {
			for _, l := range [][2]int{{1, 1}, {2, 2}, {3, 3}, {1, 2}, {1, 3}, {2, 3}, {1, 99}, {99, 99}, {2, 999}, {999, 999}} {
				if s := of(no, class, form, l[0], l[1]); spec.Check(s) == api.OK {
					list = append(list, s)
				}
			}
		}
	}
	return list
}

func TestCheckOfCopies(t *testing.T) {
	kept, lost := 0, 0
	for _, nos := range [][2]int{{2, 2}, {2, 128}, {128, 64}, {65, 64}} {
		for _, from := range eachSpec(nos[0]) {
			for _, to := range eachSpec(nos[1]) {
				m, a, b := mapOf(nil, copied(nos[0], nos[1])), only(0, from), only(1, to)
				switch {
				case from.Class == to.Class && from.Min == to.Min && from.Max == to.Max:
					checkKept(t, m, a, b)
					kept++
				case spec.Wider(to, from):
					checkLost(t, m, a, b)
					lost++
				default:
					checkMayNot(t, m, a, b, 3)
				}
			}
		}
	}
	if kept < 4*100 || lost < 4*1000 {
		t.Errorf("too few: %d kept, %d lost", kept, lost)
	}
}

func TestCheckOfCopiesNamed(t *testing.T) {
	copies := mapOf(nil, copied(2, 2))
	from := of(2, api.CDigits, api.FTwo, 2, 19)
	for _, to := range []api.Spec{from, of(2, api.CDigits, api.FThree, 2, 19)} {
		checkKept(t, copies, only(0, from), only(1, to))
	}
	checkKept(t, mapOf(nil, copied(2, 3)), only(0, from), only(1, of(3, api.CDigits, api.FTwo, 2, 19)))
	checkKept(t, copies, only(0, fixed(2, 9)), only(1, of(2, api.CDigits, api.FTwo, 9, 9)))
	checkLost(t, copies, only(0, from), only(1, of(2, api.CDigits, api.FTwo, 1, 19)))
	checkLost(t, copies, only(0, from), only(1, of(2, api.CDigits, api.FTwo, 2, 20)))
	for _, class := range []int{api.CAlnum, api.CPrint, api.CBytes} {
		checkLost(t, copies, only(0, from), only(1, of(2, class, api.FTwo, 2, 19)))
	}
	bytes, list := of(2, api.CBytes, api.FTwo, 2, 19), of(2, api.CTlv, api.FTwo, 2, 19)
	checkLost(t, copies, only(0, list), only(1, bytes))
	checkKept(t, copies, only(0, list), only(1, list))
	checkKept(t, copies, only(0, bytes), only(1, bytes))
	// Only From's is wider: by a copy none may be made so.
	checkMayNot(t, copies, only(0, bytes), only(1, list), 3)
	checkMayNot(t, copies, only(0, from), only(1, of(2, api.CDigits, api.FTwo, 3, 19)), 3)
	checkMayNot(t, copies, only(0, from), only(1, of(2, api.CDigits, api.FTwo, 2, 18)), 3)
}

// The specs are those of the rule's own two fields.
func TestCheckOfSpecsAmongOthers(t *testing.T) {
	digits := func(no int) api.Spec { return of(no, api.CDigits, api.FTwo, 2, 9) }
	letters := func(no int) api.Spec { return of(no, api.CAlnum, api.FTwo, 2, 9) }
	a := api.Schema{Style: api.SAscii, Version: 0, Fields: []api.Spec{digits(2), letters(3), fixed(4, 5), fixed(5, 7)}}
	b := api.Schema{Style: api.SAscii, Version: 1, Fields: []api.Spec{letters(2), digits(3), fixed(4, 7), fixed(5, 5)}}
	checkKept(t, mapOf(nil, copied(2, 3), copied(3, 2)), a, b)
	checkLost(t, mapOf(nil, copied(2, 2)), a, b)
	checkKept(t, mapOf(nil, copied(4, 5), copied(5, 4)), a, b)
	checkKept(t, mapOf(nil, repad(4, 5), repad(5, 4)), a, b)
	checkKept(t, mapOf(nil, repad(4, 4)), a, b)
	checkLost(t, mapOf(nil, repad(5, 5)), a, b)
	checkLost(t, mapOf(nil, repad(4, 4), repad(5, 5)), a, b)
	checkLost(t, mapOf(nil, repad(4, 4)), b, a)
	checkKept(t, mapOf(nil, repad(5, 5)), b, a)
}

func TestCheckOfRepads(t *testing.T) {
	var widths []int
	for width := 1; width <= 20; width++ {
		widths = append(widths, width)
	}
	widths = append(widths, 99, 100, 127, 128, 255, 256, 257, 998, 999)
	for _, from := range widths {
		for _, to := range widths {
			m, a, b := mapOf(nil, repad(12, 70)), only(0, fixed(12, from)), only(1, fixed(70, to))
			if to >= from {
				checkKept(t, m, a, b)
			} else {
				checkLost(t, m, a, b)
			}
		}
	}
}

func TestCheckOfTables(t *testing.T) {
	a, b := wide(0), wide(1)
	checkKept(t, mapOf(nil, table(2, 2, "001", "001")), a, b)
	checkKept(t, mapOf(nil, table(2, 2, "001", "002", "002", "003", "003", "001")), a, b)
	checkLost(t, mapOf(nil, table(2, 2, "001", "002", "002", "002")), a, b)
	for _, n := range []int{2, 3, 10, 255, 256} {
		r := api.Rule{Kind: api.RTable, From: 2, To: 2}
		for i := range n {
			r.Pairs = append(r.Pairs, api.Pair{From: strconv.Itoa(1000 + i)[1:], To: strconv.Itoa(1999 - i)[1:]})
		}
		checkKept(t, mapOf(nil, r), a, b)
		for _, first := range []int{0, 1, n / 2, n - 2} {
			for _, second := range []int{1, n / 2, n - 2, n - 1} {
				if first >= second {
					continue
				}
				lossy := r
				lossy.Pairs = sameTo(r.Pairs, first, second)
				checkLost(t, mapOf(nil, lossy), a, b)
				checkLost(t, mapOf(nil, copied(9, 9), lossy, copied(10, 10)), a, b)
			}
		}
	}
	// Of two tables each tells of its own Tos alone.
	checkKept(t, mapOf(nil, table(2, 2, "001", "009"), table(3, 3, "001", "009"), table(4, 4, "002", "009")), a, b)
	checkLost(t, mapOf(nil, table(2, 2, "001", "009"), table(3, 3, "001", "009", "002", "009")), a, b)
}

// fewRules: ones by which nothing gets lost, such by which something does, and such as may not be.
func fewRules() []api.Rule {
	return []api.Rule{
		copied(2, 2), copied(3, 3), copied(11, 14), copied(64, 65), copied(65, 64), copied(11, 11),
		repad(12, 12), repad(11, 12), repad(64, 65), repad(127, 127),
		table(39, 39, "00", "000", "05", "100"), table(39, 39, "00", "000", "05", "000"), table(22, 22, "051", "510101511344"),
		drop(13), drop(64), constant(26, "5999"), constant(65, "650"), copied(13, 43), copied(39, 39), table(39, 39), {},
	}
}

// eachRules: all lists of up to three of these.
func eachRules(do func(l []api.Rule)) {
	all := fewRules()
	do(nil)
	for _, x := range all {
		do([]api.Rule{x})
		for _, y := range all {
			do([]api.Rule{x, y})
			for _, z := range all {
				do([]api.Rule{x, y, z})
			}
		}
	}
}

func TestCheckByASecondReader(t *testing.T) {
	lists := [][]api.Pair{nil, asked(), pairs("0200", "1200", "0400", "1200")}
	kept := 0
	eachRules(func(l []api.Rule) {
		for _, mtis := range lists {
			m := mapOf(mtis, l...)
			if !wantCheck(m, left(), right()) {
				checkCheck(t, m, left(), right(), false)
				continue
			}
			checkKept(t, m, left(), right())
			kept++
		}
		checkTurn(t, mapOf(lists[1], l...))
	})
	if kept < 1000 {
		t.Errorf("too few: %d", kept)
	}
}

// P22.1, P22.2: Turn

func TestTurnOfMaps(t *testing.T) {
	m := usual()
	checkTurn(t, m)
	turned := Turn(mapOf(pairs("0200", "1200", "0210", "1210"), copied(11, 14), table(39, 22, "00", "000", "05", "100"), repad(12, 13)))
	want := mapOf(pairs("1200", "0200", "1210", "0210"), copied(14, 11), table(22, 39, "000", "00", "100", "05"), repad(13, 12))
	if !sameMap(turned, want) {
		t.Errorf("turned: %s; want %s", told(turned), told(want))
	}
	for _, l := range [][]api.Rule{lossyRules(), wrongRules(), fewRules(), rulesOfAll(), usual().Rules} {
		checkTurn(t, mapOf(asked(), l...))
		for _, r := range l {
			checkTurn(t, mapOf(nil, r))
			checkTurn(t, mapOf(types(5), r, r))
		}
	}
}

func TestTurnOfNothing(t *testing.T) {
	for _, m := range []api.Map{{}, {Mtis: []api.Pair{}, Rules: []api.Rule{}}, {Mtis: make([]api.Pair, 0, 3), Rules: make([]api.Rule, 0, 3)}} {
		if turned := Turn(m); len(turned.Mtis) != 0 || len(turned.Rules) != 0 {
			t.Errorf("Turn of nothing: %s", told(turned))
		}
		checkTurn(t, m)
	}
	checkTurn(t, mapOf(asked()))
	checkTurn(t, mapOf(nil, usual().Rules...))
	checkTurn(t, mapOf(nil, api.Rule{}))
	checkTurn(t, mapOf(make([]api.Pair, 3), make([]api.Rule, 3)...))
}

// texts: of such shapes as may be taken for each other, most of them no MTIs.
func texts() []string {
	return []string{"", "\x00", "0200", "1200", "020", "02000", "0200 ", "a", "\xff", "\u00e9", "e\u0301", strings.Repeat("z", 70000)}
}

func TestTurnOfMapsThatMayNotBe(t *testing.T) {
	var anyPairs []api.Pair
	for _, from := range texts() {
		for _, to := range texts() {
			anyPairs = append(anyPairs, api.Pair{From: from, To: to})
			checkTurn(t, mapOf(pairs(from, to)))
			checkTurn(t, mapOf(pairs(from, to, from, to)))
			checkTurn(t, mapOf(nil, table(39, 22, from, to)))
			checkTurn(t, mapOf(nil, table(39, 22, from, to, to, from)))
		}
	}
	checkTurn(t, mapOf(anyPairs))
	numbers := []int{math.MinInt, -1 << 32, -1, 0, 1, 2, 39, 128, 129, 1 << 32, math.MaxInt}
	var all []api.Rule
	for kind := -1; kind <= api.Rules+2; kind++ {
		for _, from := range numbers {
			for _, to := range numbers {
				for _, text := range texts()[:5] {
					all = append(all, api.Rule{Kind: kind, From: from, To: to, Text: text, Pairs: anyPairs[from&7 : to&15+8]})
				}
			}
		}
	}
	for _, kind := range numbers {
		all = append(all, api.Rule{Kind: kind, From: 11, To: 12, Text: "x", Pairs: anyPairs})
	}
	for _, r := range all {
		checkTurn(t, mapOf(anyPairs[:3], r))
	}
	checkTurn(t, mapOf(anyPairs, all...))
}

func TestTurnOfLongMaps(t *testing.T) {
	for _, n := range []int{255, 256, 257, 300, 65535, 65536, 65537} {
		m := mapOf(make([]api.Pair, n), make([]api.Rule, n)...)
		for i := range n {
			m.Mtis[i] = api.Pair{From: strconv.Itoa(i), To: strconv.Itoa(-i)}
			m.Rules[i] = api.Rule{Kind: i % 7, From: i, To: -i, Text: strconv.Itoa(i)}
		}
		m.Rules[n-1].Pairs = m.Mtis
		checkTurn(t, m)
		checkCheck(t, m, left(), right(), false)
	}
}

// What is turned may be one that may not go back: drops and constants are of one way.
func TestTurnedLossyMaps(t *testing.T) {
	for _, r := range lossyRules() {
		m := mapOf(nil, r)
		checkTurn(t, m)
		if r.Kind != api.RRepad {
			checkMayNot(t, Turn(m), right(), left(), 3)
		}
	}
	// By repads the way back may be the one by which nothing gets lost.
	checkLost(t, mapOf(asked(), repad(127, 127)), left(), right())
	checkKept(t, Turn(mapOf(asked(), repad(127, 127))), right(), left())
	// Pairs with the same To are such with the same From, turned.
	checkMayNot(t, Turn(mapOf(pairs("0200", "1200", "0400", "1200"))), right(), left(), 2)
}

// P22.2

func TestTheWayBack(t *testing.T) {
	for _, x := range []struct {
		m    api.Map
		back bool
	}{
		{api.Map{}, true},
		{mapOf(asked()), true},
		{mapOf(asked(), copied(2, 2), copied(3, 3), copied(11, 14)), true},
		{mapOf(asked(), table(39, 39, "00", "000")), true},
		{mapOf(asked(), repad(64, 65), repad(11, 14)), true},
		{mapOf(asked(), repad(12, 12)), false},
		{mapOf(asked(), repad(64, 65), repad(11, 12)), false},
		{usual(), false},
	} {
		checkKept(t, x.m, left(), right())
		checkCheck(t, Turn(x.m), right(), left(), x.back)
		if err, part, at := xlate.Check(Turn(x.m), right(), left()); err != api.OK {
			t.Errorf("%s, turned: %d, %d, %d", told(x.m), err, part, at)
		}
	}
}

// P22.3

// values: some that a field may have, the least and the greatest among them.
func values(s api.Spec) []string {
	switch s.Class {
	case api.CTlv:
		return []string{"\x5a\x00", "\x9f\x02\x02\x01\x00", "\x5a\x01\x00\x82\x02\xff\xfe"}
	case api.CBytes:
		return []string{strings.Repeat("\x00", s.Min), strings.Repeat("\xff", s.Max), strings.Repeat("\x00", s.Max-1) + "\x80"}
	case api.CPrint:
		return []string{strings.Repeat(" ", s.Min), strings.Repeat("~", s.Max), "0" + strings.Repeat(" ", s.Max-1)}
	}
	return []string{strings.Repeat("0", s.Min), strings.Repeat("9", s.Max), strings.Repeat("0", s.Max-1) + "1", "1" + strings.Repeat("0", s.Min-1)}
}

// valuesBy: these, and those of which a table has pairs.
func valuesBy(m api.Map, s api.Spec) []string {
	list := values(s)
	for _, r := range m.Rules {
		if r.From == s.No {
			for _, p := range r.Pairs {
				list = append(list, p.From)
			}
		}
	}
	return list
}

func TestMessagesComeBack(t *testing.T) {
	checkGoes(t, usual(), left(), right(), full())
	y, _ := xlate.Translate(usual(), left(), right(), full())
	want := message("1200", 2, "4111", 3, "000000", 12, "000000035959", 14, "000007", 22, "210101211344", 39, "100", 48, " a text", 55, "\x9f\x02\x02\x01\x00\x5a\x00", 64, "652", 65, "001", 128, "\x00\x01\x02\x03\x04\x05\x06\xff")
	if !msg.Same(y, want) {
		t.Errorf("became %s; want %s", said(y), said(want))
	}
	for bits := range 1 << len(full().Fields) {
		x := message("0800")
		for at, one := range full().Fields {
			if bits>>at&1 == 1 {
				x.Fields = append(x.Fields, one)
			}
		}
		checkGoes(t, usual(), left(), right(), x)
	}
}

func TestMessagesComeBackInAnyOrderOfRules(t *testing.T) {
	rules := usual().Rules
	for shift := range len(rules) {
		turned := append(slices.Clone(rules[shift:]), rules[:shift]...)
		checkKept(t, mapOf(asked(), turned...), left(), right())
		checkGoes(t, mapOf(asked(), turned...), left(), right(), full())
		slices.Reverse(turned)
		checkGoes(t, mapOf(asked(), turned...), left(), right(), full())
	}
	mtis := asked()
	slices.Reverse(mtis)
	checkGoes(t, mapOf(mtis, rules...), left(), right(), full())
}

// Each text of each field, alone and beside the others.
func TestEachTextComesBack(t *testing.T) {
	gone := 0
	for _, one := range left().Fields {
		for _, text := range valuesBy(usual(), one) {
			for _, x := range []api.Message{message("0210", one.No, text), msg.With(full(), one.No, text)} {
				if checkBack(t, usual(), left(), right(), x) {
					gone++
				}
			}
		}
	}
	if gone < 60 {
		t.Errorf("too few: %d", gone)
	}
}

func TestMessagesComeBackByAllMaps(t *testing.T) {
	gone := 0
	eachRules(func(l []api.Rule) {
		m := mapOf(asked(), l...)
		if !wantCheck(m, left(), right()) {
			return
		}
		x := message("0420")
		for at, one := range left().Fields {
			if slices.ContainsFunc(l, func(r api.Rule) bool { return r.From == one.No }) {
				list := valuesBy(m, one)
				x.Fields = append(x.Fields, api.Value{No: one.No, Text: list[(at+len(x.Fields))%len(list)]})
			}
		}
		for _, one := range []api.Message{x, full(), message("0210"), message("0400")} {
			if checkBack(t, m, left(), right(), one) {
				gone++
			}
		}
	})
	if gone < 1000 {
		t.Errorf("too few: %d", gone)
	}
}

func TestCopiesComeBack(t *testing.T) {
	for _, from := range eachSpec(2) {
		for _, to := range eachSpec(64) {
			m, a, b := mapOf(asked(), copied(2, 64)), only(0, from), only(1, to)
			if !wantCheck(m, a, b) {
				continue
			}
			for _, text := range values(from) {
				if spec.Value(from, text) == api.OK {
					checkGoes(t, m, a, b, message("0200", 2, text))
				}
			}
		}
	}
}

// All digits of few, and those at the edges of many: noughts ahead come back too.
func TestRepadsComeBack(t *testing.T) {
	for _, width := range []int{3, 4, 5, 12, 999} {
		m, a, b := mapOf(asked(), repad(12, 70)), only(0, fixed(12, 3)), only(1, fixed(70, width))
		for n := range 1000 {
			text := strconv.Itoa(1000 + n)[1:]
			checkGoes(t, m, a, b, message("0200", 12, text))
		}
	}
	for _, from := range []int{1, 2, 6, 18, 19, 20, 42, 998, 999} {
		for _, to := range []int{1, 2, 7, 18, 19, 21, 42, 999} {
			if to < from {
				continue
			}
			m, a, b := mapOf(asked(), repad(12, 12)), only(0, fixed(12, from)), only(1, fixed(12, to))
			for _, text := range values(fixed(12, from)) {
				checkGoes(t, m, a, b, message("0200", 12, text))
				y, _ := xlate.Translate(m, a, b, message("0200", 12, text))
				if made, _ := msg.Get(y, 12); made != strings.Repeat("0", to-from)+text {
					t.Errorf("%s, by %d digits, became %s", text, to, made)
				}
			}
		}
	}
}

// What doesn't come from the other side may not go there: that nothing gets lost holds for the one way.
func TestTheWayBackOfOthers(t *testing.T) {
	m := mapOf(asked(), repad(12, 12))
	y, fault := xlate.Translate(Turn(m), right(), left(), message("1200", 12, "240101235959"))
	if fault != (api.Fault{Err: api.ErrRange, Field: 12}) || y.Mti != "" {
		t.Errorf("became %s, %v", said(y), fault)
	}
	y, fault = xlate.Translate(Turn(m), right(), left(), message("1200", 12, "000000235959"))
	if fault != (api.Fault{}) || !msg.Same(y, message("0200", 12, "235959")) {
		t.Errorf("became %s, %v", said(y), fault)
	}
	// Of as many digits all go, either way.
	same := mapOf(asked(), repad(64, 65), copied(11, 14))
	for _, text := range []string{"000", "001", "100", "999"} {
		checkGoes(t, same, left(), right(), message("0200", 64, text))
		checkGoes(t, Turn(same), right(), left(), message("1200", 65, text))
	}
}

func TestTablesComeBack(t *testing.T) {
	var list []string
	for i := range 256 {
		list = append(list, strconv.Itoa(1000 + 3*i)[1:], strconv.Itoa(1255 - i)[1:])
	}
	m, a, b := mapOf(asked(), table(39, 2, list...)), wide(0), wide(1)
	checkKept(t, m, a, b)
	for n := range 1000 {
		text := strconv.Itoa(1000 + n)[1:]
		if n%3 == 0 && n <= 765 {
			checkGoes(t, m, a, b, message("0200", 39, text))
		} else {
			checkNothing(t, m, a, b, message("0200", 39, text), api.ErrTable, 39)
		}
		if n < 256 {
			checkGoes(t, Turn(m), b, a, message("1200", 2, text))
		} else {
			checkNothing(t, Turn(m), b, a, message("1200", 2, text), api.ErrTable, 2)
		}
	}
	// What a text becomes may be another one that becomes something itself.
	ring := mapOf(asked(), table(2, 2, "001", "002", "002", "003", "003", "001"))
	for _, text := range []string{"001", "002", "003"} {
		checkGoes(t, ring, a, b, message("0200", 2, text))
	}
}

func TestAllFieldsComeBack(t *testing.T) {
	m, a, b := mapOf(types(256), rulesOfAll()...), wide(0), wide(1)
	checkKept(t, m, a, b)
	x := message(m.Mtis[255].From)
	for _, r := range m.Rules {
		x.Fields = append(x.Fields, api.Value{No: r.From, Text: "00" + strconv.Itoa(r.From%2+1)})
	}
	checkGoes(t, m, a, b, x)
	for _, one := range x.Fields {
		checkGoes(t, m, a, b, message(m.Mtis[one.No].From, one.No, one.Text))
		checkGoes(t, m, a, b, msg.Without(x, one.No))
	}
}

func TestEachMtiComesBack(t *testing.T) {
	m := mapOf(types(256), usual().Rules...)
	for at, p := range m.Mtis {
		checkGoes(t, m, left(), right(), message(p.From))
		checkNothing(t, mapOf(m.Mtis[:at], m.Rules...), left(), right(), message(p.From), api.ErrMti, 0)
	}
	known := map[string]string{"0200": "1200", "0210": "1210", "0800": "1804", "0420": "1420"}
	for n := range 1000 {
		mti := "0" + strconv.Itoa(1000 + n)[1:]
		if known[mti] != "" {
			checkGoes(t, usual(), left(), right(), message(mti, 2, "4"))
		} else {
			checkNothing(t, usual(), left(), right(), message(mti, 2, "4"), api.ErrMti, 0)
		}
	}
}

func TestWhatBecomesNothing(t *testing.T) {
	a, b := left(), right()
	checkNothing(t, api.Map{}, a, b, message("0200"), api.ErrMti, 0)
	checkNothing(t, mapOf(nil, usual().Rules...), a, b, full(), api.ErrMti, 0)
	checkNothing(t, mapOf(asked()), a, b, full(), api.ErrNone, 2)
	checkGoes(t, mapOf(asked()), a, b, message("0200"))
	checkNothing(t, usual(), a, b, message("0100", 39, "zz"), api.ErrMti, 0)
	checkNothing(t, usual(), a, b, msg.With(full(), 13, "1231"), api.ErrNone, 13)
	checkNothing(t, usual(), a, b, msg.With(full(), 127, "000000000000"), api.ErrNone, 127)
	checkNothing(t, usual(), a, b, msg.With(full(), 39, "06"), api.ErrTable, 39)
	checkNothing(t, usual(), a, b, msg.With(full(), 22, "000"), api.ErrTable, 22)
	checkNothing(t, usual(), a, b, message("0200", 22, "000", 39, "zz"), api.ErrTable, 22)
	checkNothing(t, usual(), a, b, message("0200", 13, "1231", 39, "zz"), api.ErrNone, 13)
	// Without one of its rules a field has none, and that field alone.
	for at, r := range usual().Rules {
		m := mapOf(asked(), slices.Delete(usual().Rules, at, at+1)...)
		checkKept(t, m, a, b)
		checkNothing(t, m, a, b, full(), api.ErrNone, r.From)
		checkGoes(t, m, a, b, msg.Without(full(), r.From))
	}
}

// The dialects that are built in

// between: the map of the fields that go from the one to the other and back.
func between() api.Map {
	m := mapOf(pairs("0100", "1100", "0110", "1110", "0200", "1200", "0210", "1210", "0220", "1220", "0230", "1230", "0400", "1400", "0410", "1410", "0420", "1420", "0430", "1430", "0800", "1804", "0810", "1814"))
	set := dialect.Lossless()
	for no := set.Next(0); no != 0; no = set.Next(no) {
		if no == 12 {
			m.Rules = append(m.Rules, repad(no, no))
		} else {
			m.Rules = append(m.Rules, copied(no, no))
		}
	}
	return m
}

func TestBetweenTheDialects(t *testing.T) {
	a, b := dialect.Acquirer(), dialect.Issuer()
	m := between()
	checkKept(t, m, a, b)
	checkCheck(t, Turn(m), b, a, false)
	action := table(39, 39, "00", "000", "05", "100", "14", "111", "51", "116", "54", "101", "91", "907", "96", "909")
	entry := table(22, 22, "051", "510101511344", "021", "210101211344", "012", "100140100110")
	for _, r := range []api.Rule{copied(48, 48), entry, action} {
		m.Rules = append(m.Rules, r)
		checkKept(t, m, a, b)
	}
	for _, r := range []api.Rule{drop(13), drop(18), drop(90), copied(43, 43), constant(26, "5999")} {
		checkLost(t, mapOf(m.Mtis, append(slices.Clone(m.Rules), r)...), a, b)
		checkLost(t, mapOf(m.Mtis, r), a, b)
	}
	x := message("0800")
	for _, one := range schema.Restrict(a, schema.Set(b)).Fields {
		if one.No != 43 {
			list := valuesBy(m, one)
			x.Fields = append(x.Fields, api.Value{No: one.No, Text: list[len(list)-1]})
		}
	}
	checkGoes(t, m, a, b, x)
	checkNothing(t, m, a, b, msg.With(x, 13, "1231"), api.ErrNone, 13)
	for _, one := range a.Fields {
		for _, text := range valuesBy(m, one) {
			checkBack(t, m, a, b, message("0200", one.No, text))
		}
	}
}

// The rules of the whole

// roomy: the same list, with spare room behind it.
func roomy[T any](list []T, room T) []T {
	return append(slices.Clone(list), room, room, room)[:len(list)]
}

// room: a list and what stands in its spare room.
func room[T any](list []T) []T { return slices.Clone(list[:cap(list)]) }

// roomyMap: the same map, with spare room behind each of its lists.
func roomyMap(m api.Map) api.Map {
	m = mapOf(roomy(m.Mtis, pairs("room", "spare")[0]), roomy(m.Rules, copied(70, 71))...)
	for at := range m.Rules {
		m.Rules[at].Pairs = roomy(m.Rules[at].Pairs, pairs("room", "spare")[0])
	}
	return m
}

// roomOf: all lists of a map, with what stands in their spare room.
func roomOf(m api.Map) api.Map {
	all := api.Map{Mtis: room(m.Mtis), Rules: room(m.Rules)}
	for at, r := range all.Rules {
		all.Rules[at].Pairs = room(r.Pairs)
	}
	return all
}

func someMaps() []api.Map {
	return []api.Map{
		{}, usual(), mapOf(asked()), mapOf(nil, usual().Rules...), mapOf(types(257)), mapOf(pairs("0200", "1200", "0400", "1200"), lossyRules()...),
		mapOf(asked(), lossyRules()...), mapOf(asked(), wrongRules()...), mapOf(make([]api.Pair, 3), make([]api.Rule, 3)...),
		mapOf(asked(), copied(2, 2), table(39, 39, "00", "000")), mapOf(asked(), api.Rule{Kind: 9, Text: "x", Pairs: pairs("a", "b")}),
	}
}

func TestWhatIsHandedInStays(t *testing.T) {
	for _, base := range someMaps() {
		m, a, b := roomyMap(base), left(), right()
		a.Fields, b.Fields = roomy(a.Fields, fixed(70, 70)), roomy(b.Fields, fixed(70, 70))
		was, aWas, bWas := roomOf(m), room(a.Fields), room(b.Fields)
		Check(m, a, b)
		Check(m, b, a)
		Turn(m)
		if !sameMap(was, roomOf(m)) || !slices.Equal(aWas, room(a.Fields)) || !slices.Equal(bWas, room(b.Fields)) {
			t.Errorf("%s: a list that was handed in, or its spare room, was changed", told(base))
		}
	}
}

// overwrite: all of a list, and its spare room, but that of rules' own pairs.
func overwrite[T any](list []T, by T) {
	all := list[:cap(list)]
	for at := range all {
		all[at] = by
	}
}

func TestWhatIsAnsweredIsNewMemory(t *testing.T) {
	for _, base := range someMaps() {
		m := roomyMap(base)
		was := roomOf(m)
		y, z := Turn(m), Turn(m)
		want := wantTurn(base)
		// Of the one answer list by list is overwritten; those that weren't yet stay.
		overwrite(y.Mtis, api.Pair{From: "over", To: "written"})
		for at, r := range y.Rules {
			if !sameRule(r, want.Rules[at]) {
				t.Errorf("Turn(%s): lists of the answer share memory, at rule %d", told(base), at)
			}
			overwrite(r.Pairs, api.Pair{From: "over", To: "written"})
		}
		if !slices.Equal(y.Mtis, slices.Repeat(pairs("over", "written"), len(y.Mtis))) {
			t.Errorf("Turn(%s): the pairs share memory with others", told(base))
		}
		overwrite(y.Rules, api.Rule{Kind: -9, Text: "overwritten"})
		if !sameMap(was, roomOf(m)) {
			t.Errorf("Turn(%s): the answer shares memory with what was handed in", told(base))
		}
		if !sameMap(z, want) {
			t.Errorf("Turn(%s): two answers share memory", told(base))
		}
		// Nor does it change with what was handed in.
		for _, r := range m.Rules {
			overwrite(r.Pairs, api.Pair{From: "over", To: "written"})
		}
		overwrite(m.Mtis, api.Pair{From: "over", To: "written"})
		overwrite(m.Rules, api.Rule{Kind: -9, Text: "overwritten"})
		if !sameMap(z, want) {
			t.Errorf("Turn(%s): the answer hangs on what was handed in", told(base))
		}
	}
}

// What is handed in may share memory with itself; what is answered doesn't.
func TestSharedListsAreParted(t *testing.T) {
	shared := pairs("0200", "1200", "0210", "1210")
	m := mapOf(shared, api.Rule{Kind: api.RTable, From: 2, To: 3, Pairs: shared}, api.Rule{Kind: api.RTable, From: 4, To: 5, Pairs: shared}, api.Rule{Kind: api.RCopy, From: 6, To: 7, Pairs: shared[:1]})
	checkTurn(t, m)
	turned := Turn(m)
	want := wantTurn(m)
	overwrite(turned.Rules[0].Pairs, api.Pair{})
	if !slices.Equal(turned.Mtis, want.Mtis) || !sameRule(turned.Rules[1], want.Rules[1]) || !sameRule(turned.Rules[2], want.Rules[2]) {
		t.Errorf("lists of the answer share memory")
	}
	overwrite(turned.Rules[2].Pairs, api.Pair{From: "x"})
	if !slices.Equal(turned.Mtis, want.Mtis) || !sameRule(turned.Rules[1], want.Rules[1]) || !slices.Equal(shared, pairs("0200", "1200", "0210", "1210")) {
		t.Errorf("lists of the answer, or what was handed in, share memory")
	}
}

func TestNilAndEmptyListsAreOne(t *testing.T) {
	for _, mtis := range [][]api.Pair{nil, {}, make([]api.Pair, 0, 3)} {
		for _, rules := range [][]api.Rule{nil, {}, make([]api.Rule, 0, 3)} {
			checkKept(t, api.Map{Mtis: mtis, Rules: rules}, left(), right())
			checkTurn(t, api.Map{Mtis: mtis, Rules: rules})
		}
		for _, r := range []api.Rule{copied(11, 11), repad(12, 12), drop(13), constant(26, "5999"), table(39, 39), repad(127, 127)} {
			r.Pairs = nil
			want := Check(mapOf(nil, r), left(), right())
			r.Pairs = mtis
			checkCheck(t, mapOf(mtis, r), left(), right(), want)
			checkTurn(t, mapOf(mtis, r))
		}
	}
	a, b := api.Schema{Style: 1, Fields: []api.Spec{}}, api.Schema{Style: 2, Version: 1, Fields: []api.Spec{}}
	for range 2 {
		checkKept(t, api.Map{}, a, b)
		checkKept(t, mapOf(asked()), a, b)
		checkGoes(t, mapOf(asked()), a, b, message("0200"))
		checkMayNot(t, usual(), a, b, 3)
		a.Fields, b.Fields = nil, nil
	}
}

// What was told once tells nothing of what comes behind it.
func TestNothingIsKept(t *testing.T) {
	m := usual()
	for range 3 {
		checkKept(t, m, left(), right())
		checkTurn(t, m)
		m.Rules[0] = drop(13)
		checkLost(t, m, left(), right())
		m.Rules[0] = table(39, 39, "00", "000")
		m.Mtis[3] = api.Pair{From: "0420", To: "1200"}
		checkLost(t, m, left(), right())
		checkTurn(t, m)
		m.Mtis[3].To = "1210"
		checkMayNot(t, m, left(), right(), 2)
		m.Mtis[3].To = "1420"
		checkCheck(t, m, right(), left(), false)
	}
}

func TestLongListsEnd(t *testing.T) {
	many := mapOf(make([]api.Pair, 1<<20), make([]api.Rule, 1<<18)...)
	checkMayNot(t, many, left(), right(), 2)
	checkTurn(t, many)
	many.Mtis = nil
	checkMayNot(t, many, left(), right(), 3)
	long := strings.Repeat("0200", 1<<18)
	checkMayNot(t, mapOf(pairs(long, long)), left(), right(), 2)
	checkTurn(t, mapOf(pairs(long, ""), api.Rule{Text: long, Pairs: pairs(long, long)}))
	a := left()
	a.Fields = append(a.Fields, make([]api.Spec, 1<<18)...)
	checkMayNot(t, usual(), a, right(), 1)
}

func FuzzMaps(f *testing.F) {
	f.Add("0200 1200 0210 1210", "\x01\x0b\x0b\x04\x0c\x0c", "x", "00 000 05 100", "0200", 11, "000001", 12, "235959")
	f.Add("0200 1200 0400 1200", "\x05\x27\x27\x04\x7f\x7f", "", "00 000 05 000", "0400", 39, "05", 127, "000000000001")
	f.Fuzz(func(t *testing.T, types, rules, text, table, mti string, one int, value string, other int, late string) {
		w, q := strings.Split(types, " "), strings.Split(table, " ")
		if len(w) > 600 || len(q) > 600 || len(rules) > 900 {
			return
		}
		m := mapOf(pairs(w[:len(w)/2*2]...))
		for ; len(rules) >= 3; rules = rules[3:] {
			r := api.Rule{Kind: int(rules[0]), From: int(rules[1]), To: int(rules[2])}
			switch r.Kind {
			case api.RConst:
				r.Text = text
			case api.RTable:
				r.Pairs = pairs(q[:len(q)/2*2]...)
			}
			m.Rules = append(m.Rules, r)
		}
		checkTurn(t, m)
		list := []api.Message{message(mti), message(mti, one, value), message(mti, one, value, other, late), message(mti, other, late)}
		for _, s := range [][2]api.Schema{{left(), right()}, {right(), left()}, {wide(0), wide(1)}, {dialect.Acquirer(), dialect.Issuer()}} {
			a, b := s[0], s[1]
			if !wantCheck(m, a, b) {
				checkCheck(t, m, a, b, false)
				continue
			}
			checkKept(t, m, a, b)
			for _, x := range list {
				if msg.Check(a, x) == (api.Fault{}) {
					checkBack(t, m, a, b, x)
				}
			}
		}
	})
}
