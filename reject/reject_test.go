package reject

import (
	"maps"
	"math"
	"slices"
	"strconv"
	"strings"
	"testing"

	"groat/api"
	"groat/dialect"
	"groat/msg"
	"groat/mti"
	"groat/schema"
	"groat/spec"
	"groat/strict"
	"groat/wire"
)

func of(no, class, form, least, greatest int) api.Spec {
	return api.Spec{No: no, Class: class, Form: form, Min: least, Max: greatest}
}

// fixed: so many digits.
func fixed(no, width int) api.Spec { return of(no, api.CDigits, api.FFixed, width, width) }

// left: the one schema. 38 and 40 stand beside the action, 63 to 65 where sets of fields are parted, 2 and 128 at their ends.
func left() api.Schema {
	return api.Schema{Style: api.SAscii, Version: 0, Fields: []api.Spec{
		of(2, api.CDigits, api.FTwo, 1, 19),
		fixed(3, 6),
		fixed(11, 6),
		of(38, api.CAlnum, api.FFixed, 6, 6),
		of(39, api.CAlnum, api.FFixed, 2, 2),
		fixed(40, 3),
		of(41, api.CPrint, api.FFixed, 8, 8),
		of(48, api.CPrint, api.FThree, 1, 999),
		of(55, api.CTlv, api.FThree, 1, 255),
		fixed(63, 3),
		fixed(64, 3),
		fixed(65, 3),
		fixed(70, 3),
		of(128, api.CBytes, api.FFixed, 8, 8),
	}}
}

// right: the other one, of another style, version and action.
func right() api.Schema {
	return api.Schema{Style: api.SBinary, Version: 1, Fields: []api.Spec{
		of(2, api.CDigits, api.FTwo, 1, 19),
		fixed(11, 6),
		fixed(39, 3),
		of(41, api.CPrint, api.FFixed, 8, 8),
		fixed(70, 3),
		of(127, api.CBytes, api.FThree, 1, 255),
	}}
}

// wide: a schema with each field that there may be, of three digits.
func wide(version int) api.Schema {
	s := api.Schema{Style: api.SAscii, Version: version}
	for no := 2; no <= api.MaxField; no++ {
		s.Fields = append(s.Fields, fixed(no, 3))
	}
	return s
}

// acting: the schema, of which the action is another one's; none, if it is the zero one.
func acting(s api.Schema, action api.Spec) api.Schema {
	list := slices.DeleteFunc(slices.Clone(s.Fields), func(one api.Spec) bool { return one.No == api.Action })
	if action != (api.Spec{}) {
		at := slices.IndexFunc(list, func(one api.Spec) bool { return one.No > api.Action })
		if at < 0 {
			at = len(list)
		}
		list = slices.Insert(list, at, action)
	}
	s.Fields = list
	return s
}

func code(e api.Errno, text string) api.Code { return api.Code{Err: e, Text: text} }

// allCodes: one for each error, by rising numbers, each with a text of two digits of its own.
func allCodes() []api.Code {
	var list []api.Code
	for e := api.OK; e <= api.ErrDead; e++ {
		list = append(list, code(e, strconv.Itoa(int(e)+10)))
	}
	return list
}

// someCodes: a few, in no order.
func someCodes() []api.Code {
	return []api.Code{code(api.ErrCut, "30"), code(api.ErrTable, "12"), code(api.OK, "96"), code(api.ErrDead, "9a")}
}

func side(s api.Schema, echo []int, codes ...api.Code) api.Side {
	return api.Side{Schema: s, Echo: echo, Codes: codes}
}

// usual: a side that may be, of which nothing is in order.
func usual() api.Side { return side(left(), []int{41, 11, 3, 128, 64, 2, 65}, someCodes()...) }

// others: sides that may be.
func others() []api.Side {
	return []api.Side{
		usual(),
		side(left(), nil, code(api.OK, "96")),
		side(left(), []int{2, 3, 11, 38, 40, 41, 48, 55, 63, 64, 65, 70, 128}, allCodes()...),
		side(right(), []int{127, 11}, code(api.OK, "909"), code(api.ErrCut, "904")),
		side(api.Schema{Style: api.SAscii, Fields: []api.Spec{fixed(39, 2)}}, nil, someCodes()[:3]...),
		side(wide(0), []int{128, 2, 64, 65}, code(api.ErrArg, "001"), code(api.OK, "000")),
		acquirers(),
		issuers(),
	}
}

// acquirers, issuers: how the built-in dialects reject.
func acquirers() api.Side {
	return side(dialect.Acquirer(), []int{2, 3, 4, 7, 11, 12, 32, 37, 41, 42, 70}, code(api.OK, "96"), code(api.ErrCut, "30"), code(api.ErrForm, "30"), code(api.ErrMore, "30"), code(api.ErrNone, "30"), code(api.ErrTable, "12"))
}

func issuers() api.Side {
	return side(dialect.Issuer(), []int{2, 3, 4, 7, 11, 12, 32, 37, 41, 42, 70}, code(api.OK, "909"), code(api.ErrCut, "904"), code(api.ErrForm, "904"), code(api.ErrMore, "904"), code(api.ErrNone, "904"), code(api.ErrTable, "902"))
}

// message: an MTI, and a number and a text of each field.
func message(mti string, list ...any) api.Message {
	m := api.Message{Mti: mti}
	for i := 0; i < len(list); i += 2 {
		m.Fields = append(m.Fields, api.Value{No: list[i].(int), Text: list[i+1].(string)})
	}
	return m
}

// full: a message that is valid under left, with most of its fields.
func full() api.Message {
	return message("0200", 2, "4111", 3, "000000", 11, "000007", 38, "abC123", 39, "05", 40, "101", 41, "term  01", 48, " a text", 55, "\x9f\x02\x02\x01\x00\x5a\x00", 63, "000", 64, "001", 65, "652", 128, "\x00\x01\x02\x03\x04\x05\x06\xff")
}

// told: how a link rejects in few signs, since it may be long.
func told(s api.Side) string {
	list := "style " + strconv.Itoa(s.Schema.Style) + ", version " + strconv.Itoa(s.Schema.Version) + ", " + strconv.Itoa(len(s.Schema.Fields)) + " fields; echo"
	for _, no := range s.Echo[:min(len(s.Echo), 12)] {
		list += " " + strconv.Itoa(no)
	}
	list += " (" + strconv.Itoa(len(s.Echo)) + "); codes"
	for _, one := range s.Codes[:min(len(s.Codes), 20)] {
		list += " " + strconv.Itoa(int(one.Err)) + ":" + strconv.Quote(one.Text[:min(len(one.Text), 10)])
	}
	return list + " (" + strconv.Itoa(len(s.Codes)) + ")"
}

// said: a message in few signs.
func said(x api.Message) string {
	s := strconv.Quote(x.Mti[:min(len(x.Mti), 10)])
	for _, one := range x.Fields[:min(len(x.Fields), 20)] {
		s += " " + strconv.Itoa(one.No) + ":" + strconv.Quote(one.Text[:min(len(one.Text), 20)])
	}
	return s + " (" + strconv.Itoa(len(x.Fields)) + " fields)"
}

// A second reader of the chapter.

func wantCheck(s api.Side) (api.Errno, int, int) {
	if err, _ := schema.Check(s.Schema); err != api.OK {
		return api.ErrArg, 1, 0
	}
	known := map[int]api.Spec{}
	for _, one := range s.Schema.Fields {
		known[one.No] = one
	}
	action, ok := known[39]
	if !ok {
		return api.ErrNone, 1, 1
	}
	seen := map[int]bool{}
	for at, no := range s.Echo {
		_, ok := known[no]
		switch {
		case !ok:
			return api.ErrNone, 2, at
		case no == 39:
			return api.ErrArg, 2, at
		case seen[no]:
			return api.ErrTwice, 2, at
		}
		seen[no] = true
	}
	var stood [17]bool
	for at, one := range s.Codes {
		if one.Err < 0 || one.Err > 16 {
			return api.ErrArg, 3, at
		}
		if stood[one.Err] {
			return api.ErrTwice, 3, at
		}
		if err := spec.Value(action, one.Text); err != api.OK {
			return err, 3, at
		}
		stood[one.Err] = true
	}
	if !stood[0] {
		return api.ErrTable, 3, len(s.Codes)
	}
	return api.OK, 0, 0
}

func wantCode(s api.Side, e api.Errno) string {
	// From the right, so that the first one stays.
	texts := map[api.Errno]string{}
	for _, one := range slices.Backward(s.Codes) {
		texts[one.Err] = one.Text
	}
	text, ok := texts[e]
	if !ok {
		return texts[0]
	}
	return text
}

func wantBuild(s api.Side, m api.Message, f api.Fault) (api.Message, bool) {
	if len(m.Mti) != 4 || strings.Trim(m.Mti, "0123456789") != "" || m.Mti[2] != '0' && m.Mti[2] != '2' {
		return api.Message{}, false
	}
	texts := map[int]string{}
	for _, one := range slices.Backward(m.Fields) {
		if slices.Contains(s.Echo, one.No) {
			texts[one.No] = one.Text
		}
	}
	texts[39] = wantCode(s, f.Err)
	answer := message(m.Mti[:2] + string(m.Mti[2]+1) + m.Mti[3:])
	for _, no := range slices.Sorted(maps.Keys(texts)) {
		answer.Fields = append(answer.Fields, api.Value{No: no, Text: texts[no]})
	}
	return answer, true
}

// Checks

func checkCheck(t *testing.T, s api.Side, want api.Errno, part, at int) {
	t.Helper()
	if err, inPart, place := Check(s); err != want || inPart != part || place != at {
		t.Errorf("Check(%s): %d, %d, %d; want %d, %d, %d", told(s), err, inPart, place, want, part, at)
	}
}

// checkMay: the side may be, and by the second reader, too.
func checkMay(t *testing.T, s api.Side) {
	t.Helper()
	checkCheck(t, s, api.OK, 0, 0)
	if err, part, at := wantCheck(s); err != api.OK {
		t.Errorf("%s may not be, by the second reader: %d, %d, %d", told(s), err, part, at)
	}
}

func checkByReader(t *testing.T, s api.Side) api.Errno {
	t.Helper()
	err, part, at := wantCheck(s)
	checkCheck(t, s, err, part, at)
	return err
}

func checkCode(t *testing.T, s api.Side, e api.Errno, want string) {
	t.Helper()
	if got := Code(s, e); got != want {
		t.Errorf("Code(%s; %d): %q; want %q", told(s), e, got, want)
	}
}

// checkBuilt: the answer is just that one.
func checkBuilt(t *testing.T, s api.Side, m api.Message, f api.Fault, want api.Message) {
	t.Helper()
	if got, ok := Build(s, m, f); !ok || !msg.Same(got, want) {
		t.Errorf("Build(%s; %s; %v): %s, %v; want %s", told(s), said(m), f, said(got), ok, said(want))
	}
}

// checkNone: there is no answer.
func checkNone(t *testing.T, s api.Side, m api.Message, f api.Fault) {
	t.Helper()
	if got, ok := Build(s, m, f); ok || got.Mti != "" || len(got.Fields) > 0 {
		t.Errorf("Build(%s; %s; %v): %s, %v; want nothing", told(s), said(m), f, said(got), ok)
	}
}

func checkBuildByReader(t *testing.T, s api.Side, m api.Message, f api.Fault) {
	t.Helper()
	if want, ok := wantBuild(s, m, f); ok {
		checkBuilt(t, s, m, f, want)
		return
	}
	checkNone(t, s, m, f)
}

// checkAnswer: to a valid message, under a side that may be: the answer is valid, doesn't ask, and has just the fields that it should; it has bytes, too, by which it is read as it was.
func checkAnswer(t *testing.T, s api.Side, m api.Message, f api.Fault) {
	t.Helper()
	if err, _, _ := Check(s); err != api.OK || msg.Check(s.Schema, m) != (api.Fault{}) {
		t.Errorf("%s may not be (%d), or %s isn't valid: %v", told(s), err, said(m), msg.Check(s.Schema, m))
		return
	}
	answer, ok := Build(s, m, f)
	if ok != mti.Request(m.Mti) {
		t.Errorf("Build(%s; %s; %v): %v", told(s), said(m), f, ok)
	}
	if !ok {
		return
	}
	if fault := msg.Check(s.Schema, answer); fault != (api.Fault{}) || mti.Request(answer.Mti) {
		t.Errorf("Build(%s; %s; %v): %s isn't valid, or asks: %v", told(s), said(m), f, said(answer), fault)
	}
	for no := -1; no <= 130; no++ {
		text, there := msg.Get(m, no)
		there = there && slices.Contains(s.Echo, no)
		if no == 39 {
			text, there = Code(s, f.Err), true
		}
		if got, ok := msg.Get(answer, no); ok != there || ok && got != text {
			t.Errorf("Build(%s; %s; %v): %s: field %d: %q, %v", told(s), said(m), f, said(answer), no, got, ok)
		}
	}
	bytes, fault := wire.Encode(s.Schema, answer)
	if again, late := strict.Decode(s.Schema, bytes); fault != (api.Fault{}) || late != (api.Fault{}) || !msg.Same(again, answer) {
		t.Errorf("Build(%s; %s; %v): %s has %q, %v: %s, %v", told(s), said(m), f, said(answer), bytes, fault, said(again), late)
	}
	checkNone(t, s, answer, f)
}

// eachErrno: all errors, and numbers that are none.
func eachErrno() []api.Errno {
	list := []api.Errno{math.MinInt, -1 << 32, -17, 1 << 8, 1 << 16, 1 << 32, 1<<32 + 2, math.MaxInt}
	for e := api.Errno(-3); e <= 20; e++ {
		list = append(list, e)
	}
	return list
}

// eachList: all lists of up to so many of some.
func eachList[T any](some []T, most int, do func(l []T)) {
	var list []T
	var longer func()
	longer = func() {
		do(list)
		if len(list) == most {
			return
		}
		for _, one := range some {
			list = append(list, one)
			longer()
			list = list[:len(list)-1]
		}
	}
	longer()
}

// eachOrder: all orders of a list.
func eachOrder[T any](list []T, do func(l []T)) {
	var swap func(at int)
	swap = func(at int) {
		if at == len(list) {
			do(slices.Clone(list))
			return
		}
		for i := at; i < len(list); i++ {
			list[at], list[i] = list[i], list[at]
			swap(at + 1)
			list[at], list[i] = list[i], list[at]
		}
	}
	swap(0)
}

// someOf: those of a list whose bits are set.
func someOf[T any](list []T, bits int) []T {
	var some []T
	for at, one := range list {
		if bits>>at&1 == 1 {
			some = append(some, one)
		}
	}
	return some
}

func TestExamples(t *testing.T) {
	s := side(dialect.Acquirer(), []int{11, 41}, code(api.ErrCut, "30"), code(api.OK, "96"))
	checkMay(t, s)
	m := message("0200", 3, "000000", 11, "000001")
	checkBuilt(t, s, m, api.Fault{Err: api.ErrCut, Field: 41}, message("0210", 11, "000001", 39, "30"))
	checkBuilt(t, s, m, api.Fault{Err: api.ErrTag, Field: 55}, message("0210", 11, "000001", 39, "96"))
	checkBuilt(t, s, msg.With(m, 41, "terminal"), api.Fault{Err: api.ErrCut, Field: 42}, message("0210", 11, "000001", 39, "30", 41, "terminal"))
	checkBuilt(t, acquirers(), message("0200", 11, "000001", 39, "07"), api.Fault{Err: api.ErrTable, Field: 39}, message("0210", 11, "000001", 39, "12"))
	checkBuilt(t, acquirers(), message("0800"), api.Fault{Err: api.ErrCut, Field: 11}, message("0810", 39, "30"))
	checkNone(t, acquirers(), message("0210"), api.Fault{Err: api.ErrCut, Field: 11})
}

// P23.1: sides that may be

func TestCheckOfSidesThatMayBe(t *testing.T) {
	for _, s := range others() {
		checkMay(t, s)
		s.Echo = nil
		checkMay(t, s)
		slices.Reverse(s.Codes)
		checkMay(t, s)
	}
	eachOrder([]int{2, 41, 11, 128, 64}, func(l []int) { checkMay(t, side(left(), l, someCodes()...)) })
	eachOrder(someCodes(), func(l []api.Code) { checkMay(t, side(left(), []int{11}, l...)) })
	// Codes of several errors may have one text.
	checkMay(t, side(left(), nil, code(api.ErrCut, "30"), code(api.OK, "30"), code(api.ErrForm, "30")))
}

func TestCheckOfLongSidesThatMayBe(t *testing.T) {
	var all []int
	for no := 2; no <= api.MaxField; no++ {
		if no != api.Action {
			all = append(all, no)
		}
	}
	codes := []api.Code{}
	for e := api.OK; e <= api.ErrDead; e++ {
		codes = append(codes, code(e, "000"))
	}
	for range 2 {
		for n := 0; n <= len(all); n++ {
			checkMay(t, side(wide(0), all[:n], codes...))
		}
		for n := 0; n <= len(codes); n++ {
			list := append(slices.Clone(codes[:n]), codes[n:]...)
			checkMay(t, side(wide(0), all, append(list[n:], list[:n]...)...))
		}
		slices.Reverse(all)
		slices.Reverse(codes)
	}
}

// The Map isn't looked at, whatever it is, and whatever else is wrong.
func TestCheckDoesNotLookAtTheMap(t *testing.T) {
	pairs := []api.Pair{{From: "0200", To: "1200"}}
	list := []api.Map{
		{},
		{Mtis: pairs},
		{Mtis: append(pairs, pairs...)},
		{Mtis: []api.Pair{{}}},
		{Rules: []api.Rule{{Kind: api.RCopy, From: 11, To: 11}}},
		{Rules: []api.Rule{{}, {Kind: 9, From: -1, To: 200}}},
		{Mtis: make([]api.Pair, 300), Rules: make([]api.Rule, 300)},
	}
	for _, m := range list {
		for _, s := range append(others(), wrongSides()...) {
			want, part, at := wantCheck(s)
			s.Map = m
			checkCheck(t, s, want, part, at)
			checkCode(t, s, api.ErrCut, wantCode(s, api.ErrCut))
			checkBuildByReader(t, s, full(), api.Fault{Err: api.ErrCut, Field: 40})
		}
	}
}

// P23.1: part 1

// wrongSchemas: ones of which layer 13 tells errors, from one that may be.
func wrongSchemas(s api.Schema) []api.Schema {
	var list []api.Schema
	spoil := func(by func(s *api.Schema)) {
		one := api.Schema{Style: s.Style, Version: s.Version, Fields: slices.Clone(s.Fields)}
		by(&one)
		list = append(list, one)
	}
	for _, style := range []int{-1, 0, 3, 1<<32 + 1} {
		spoil(func(s *api.Schema) { s.Style = style })
	}
	for _, version := range []int{math.MinInt, -1, 10, 1 << 32} {
		spoil(func(s *api.Schema) { s.Version = version })
	}
	last := len(s.Fields) - 1
	spoil(func(s *api.Schema) { s.Fields[0].No = 1 })
	spoil(func(s *api.Schema) { s.Fields[last].No = 129 })
	spoil(func(s *api.Schema) { s.Fields[last].Class = 0 })
	spoil(func(s *api.Schema) { s.Fields[last].Class = 7 })
	spoil(func(s *api.Schema) { s.Fields[last].Form = 4 })
	spoil(func(s *api.Schema) { s.Fields[last].Min = 0 })
	spoil(func(s *api.Schema) { s.Fields[last].Max = 1000 })
	spoil(func(s *api.Schema) { s.Fields = append(s.Fields, s.Fields[last]) })
	spoil(func(s *api.Schema) { s.Fields = append(s.Fields, fixed(2, 1)) })
	at := slices.IndexFunc(s.Fields, func(one api.Spec) bool { return one.No == api.Action })
	if at >= 0 {
		spoil(func(s *api.Schema) { s.Fields[at].Min = 0 })
		spoil(func(s *api.Schema) { s.Fields[at].Class = api.CTlv })
		spoil(func(s *api.Schema) { s.Fields = slices.Insert(s.Fields, at, s.Fields[at]) })
	}
	return append(list, api.Schema{})
}

// echoes, lists: what may stand in parts 2 and 3 of sides with the schema left, and what may not.
func echoes() [][]int {
	return [][]int{nil, {11}, {41, 11, 2}, {39}, {5}, {11, 11}, {11, 39, 5}, {5, 39, 11, 11}}
}

func lists() [][]api.Code {
	return [][]api.Code{someCodes(), {code(api.OK, "00")}, nil, {code(17, "00")}, {code(api.OK, "0")}, {code(api.ErrCut, "00")}, {code(api.OK, "00"), code(api.OK, "00")}}
}

func TestCheckOfSchemas(t *testing.T) {
	for _, base := range []api.Schema{left(), right(), wide(0), wide(9), acting(left(), api.Spec{})} {
		for _, s := range wrongSchemas(base) {
			for _, echo := range echoes() {
				for _, codes := range lists() {
					checkCheck(t, side(s, echo, codes...), api.ErrArg, 1, 0)
				}
			}
		}
	}
	checkCheck(t, api.Side{}, api.ErrArg, 1, 0)
	// The error of part 1 is the same one, whatever layer 13 tells, and whichever spec is wrong.
	for at := range left().Fields {
		s := left()
		s.Fields[at].Class = 0
		checkCheck(t, side(s, nil, someCodes()...), api.ErrArg, 1, 0)
	}
}

func TestCheckOfSchemasWithoutTheAction(t *testing.T) {
	list := []api.Schema{
		{Style: api.SAscii},
		{Style: api.SBinary, Version: 9},
		acting(left(), api.Spec{}),
		acting(right(), api.Spec{}),
		acting(wide(0), api.Spec{}),
		{Style: api.SAscii, Fields: []api.Spec{of(38, api.CAlnum, api.FFixed, 2, 2), of(40, api.CAlnum, api.FFixed, 2, 2)}},
		{Style: api.SAscii, Fields: []api.Spec{fixed(2, 39), fixed(11, 39)}},
	}
	for _, s := range list {
		if err, _ := schema.Check(s); err != api.OK {
			t.Errorf("a schema may not be: %d", err)
		}
		for _, echo := range echoes() {
			for _, codes := range lists() {
				checkCheck(t, side(s, echo, codes...), api.ErrNone, 1, 1)
			}
		}
	}
	// Of one field alone it is just the action's that will do.
	for no := 2; no <= api.MaxField; no++ {
		s := side(api.Schema{Style: api.SAscii, Fields: []api.Spec{fixed(no, 2)}}, nil, code(api.OK, "00"))
		if no == api.Action {
			checkMay(t, s)
			continue
		}
		checkCheck(t, s, api.ErrNone, 1, 1)
	}
}

// Part 1 is told ahead of part 2, and part 2 ahead of part 3.
func TestCheckOfPartsInTheirOrder(t *testing.T) {
	for _, echo := range echoes() {
		for _, codes := range lists() {
			checkByReader(t, side(left(), echo, codes...))
		}
	}
	for _, codes := range lists() {
		checkCheck(t, side(left(), []int{39}, codes...), api.ErrArg, 2, 0)
		checkCheck(t, side(left(), []int{11, 5}, codes...), api.ErrNone, 2, 1)
		checkCheck(t, side(left(), []int{11, 2, 11}, codes...), api.ErrTwice, 2, 2)
	}
}

// P23.1: part 2

func TestCheckOfFieldsThatTheSchemaHasNot(t *testing.T) {
	good := []int{41, 11, 128, 2, 64}
	has := schema.Set(left())
	list := []int{math.MinInt, -1 << 32, -39, 1<<8 + 11, 1<<16 + 11, 1<<32 + 11, 1<<32 + 39, math.MaxInt}
	for no := -3; no <= 200; no++ {
		if !has.Has(no) {
			list = append(list, no)
		}
	}
	for _, no := range list {
		for at := range len(good) + 1 {
			checkCheck(t, side(left(), slices.Insert(slices.Clone(good), at, no), someCodes()...), api.ErrNone, 2, at)
		}
		checkCheck(t, side(left(), []int{no}, someCodes()...), api.ErrNone, 2, 0)
		checkCheck(t, side(left(), []int{no, no}, someCodes()...), api.ErrNone, 2, 0)
	}
}

func TestCheckOfTheActionEchoed(t *testing.T) {
	good := []int{41, 11, 128, 2, 64}
	for at := range len(good) + 1 {
		echo := slices.Insert(slices.Clone(good), at, 39)
		checkCheck(t, side(left(), echo, someCodes()...), api.ErrArg, 2, at)
		checkCheck(t, side(left(), append(echo, 39, 11, 5), someCodes()...), api.ErrArg, 2, at)
		checkCheck(t, side(acting(left(), fixed(39, 2)), echo, code(api.OK, "00")), api.ErrArg, 2, at)
	}
	checkCheck(t, side(left(), []int{39}, someCodes()...), api.ErrArg, 2, 0)
	checkCheck(t, side(left(), []int{39, 39}, someCodes()...), api.ErrArg, 2, 0)
}

func TestCheckOfFieldsEchoedTwice(t *testing.T) {
	good := []int{41, 11, 128, 2, 64, 3, 65}
	for first := range good {
		for second := first + 1; second <= len(good); second++ {
			echo := slices.Insert(slices.Clone(good), second, good[first])
			checkCheck(t, side(left(), echo, someCodes()...), api.ErrTwice, 2, second)
			checkCheck(t, side(left(), echo[:second+1], someCodes()...), api.ErrTwice, 2, second)
			checkCheck(t, side(left(), append(echo, 39, 5, good[first]), someCodes()...), api.ErrTwice, 2, second)
		}
	}
	var all []int
	for _, one := range wide(0).Fields {
		if one.No != api.Action {
			all = append(all, one.No)
		}
	}
	for _, no := range all {
		checkCheck(t, side(wide(0), append(slices.Clone(all), no), code(api.OK, "000")), api.ErrTwice, 2, len(all))
		checkCheck(t, side(wide(0), []int{no, no}, code(api.OK, "000")), api.ErrTwice, 2, 1)
	}
}

func TestCheckOfAllShortEchoes(t *testing.T) {
	told := map[api.Errno]int{}
	eachList([]int{2, 11, 128, 39, 5, 0, 129, -1}, 4, func(l []int) {
		told[checkByReader(t, side(left(), l, someCodes()...))]++
		told[checkByReader(t, side(left(), l))]++
	})
	for _, err := range []api.Errno{api.OK, api.ErrNone, api.ErrArg, api.ErrTwice, api.ErrTable} {
		if told[err] == 0 {
			t.Errorf("no list of fields is told %d", err)
		}
	}
}

// P23.1: part 3

func TestCheckOfNumbersThatAreNoErrors(t *testing.T) {
	for _, e := range eachErrno() {
		may := e >= 0 && e <= 16
		for at := range 5 {
			list := slices.Insert([]api.Code{code(api.ErrCut, "30"), code(api.ErrTable, "12"), code(api.OK, "96"), code(api.ErrDead, "9a")}, at, code(e, "00"))
			if may {
				checkByReader(t, side(left(), []int{11}, list...))
				continue
			}
			checkCheck(t, side(left(), []int{11}, list...), api.ErrArg, 3, at)
			// ErrArg is told ahead of the text's.
			list[at].Text = "a text"
			checkCheck(t, side(left(), nil, list...), api.ErrArg, 3, at)
			checkCheck(t, side(left(), nil, list[:at+1]...), api.ErrArg, 3, at)
			checkCheck(t, side(left(), nil, append(list, list[at])...), api.ErrArg, 3, at)
		}
		switch {
		case !may:
			checkCheck(t, side(left(), nil, code(api.OK, "00"), code(e, "00")), api.ErrArg, 3, 1)
		case e == api.OK:
			checkMay(t, side(left(), nil, code(e, "00")))
		default:
			checkMay(t, side(left(), nil, code(api.OK, "00"), code(e, "00")))
			checkMay(t, side(left(), nil, code(e, "00"), code(api.OK, "00")))
		}
	}
}

func TestCheckOfErrorsTwice(t *testing.T) {
	good := allCodes()
	for first := range good {
		for second := first + 1; second <= len(good); second++ {
			// Whether the texts are the same is one; ErrTwice is told ahead of the text's, too.
			for _, text := range []string{good[first].Text, "zz", "", "three", "a-"} {
				list := slices.Insert(slices.Clone(good), second, code(good[first].Err, text))
				checkCheck(t, side(left(), []int{11}, list...), api.ErrTwice, 3, second)
				checkCheck(t, side(left(), []int{11}, list[:second+1]...), api.ErrTwice, 3, second)
				checkCheck(t, side(left(), nil, append(list, code(99, ""))...), api.ErrTwice, 3, second)
			}
		}
	}
}

// wrongTexts: specs of the action, and texts that may not be its, by the error of layer 11 that stands for them.
func wrongTexts() []struct {
	action      api.Spec
	good, wrong string
	want        api.Errno
} {
	two := of(39, api.CAlnum, api.FFixed, 2, 2)
	some := of(39, api.CPrint, api.FTwo, 2, 4)
	list := of(39, api.CTlv, api.FThree, 1, 9)
	bytes := of(39, api.CBytes, api.FThree, 3, 3)
	return []struct {
		action      api.Spec
		good, wrong string
		want        api.Errno
	}{
		{two, "0a", "", api.ErrRange},
		{two, "96", "9", api.ErrRange},
		{two, "96", "909", api.ErrRange},
		{two, "96", "9-9", api.ErrRange},
		{two, "96", "9-", api.ErrClass},
		{two, "96", "\xb96", api.ErrClass},
		{two, "zZ", " 6", api.ErrClass},
		{fixed(39, 3), "909", "96", api.ErrRange},
		{fixed(39, 3), "909", "9a9", api.ErrClass},
		{fixed(39, 3), "000", "00a", api.ErrClass},
		{some, "a ", "a", api.ErrRange},
		{some, "a -b", "a -bc", api.ErrRange},
		{some, "~~~", "~\x7f~", api.ErrClass},
		{some, "  ", "\n ", api.ErrClass},
		{list, "\x5a\x00", "\x5a", api.ErrTag},
		{list, "\x5a\x01\x41", "\x5a\x02\x41", api.ErrTag},
		{list, "\x82\x00\x5a\x00", "\x82\x00\x82\x00", api.ErrTag},
		{list, "\x5a\x07\x00\x00\x00\x00\x00\x00\x00", "\x5a\x08\x00\x00\x00\x00\x00\x00\x00\x00", api.ErrRange},
		{list, "\x5a\x00", "", api.ErrRange},
		{bytes, "\x00\xff\n", "\x00\xff", api.ErrRange},
		{bytes, "\x00\xff\n", "\x00\xff\n\n", api.ErrRange},
	}
}

func TestCheckOfTexts(t *testing.T) {
	for _, one := range wrongTexts() {
		s := acting(left(), one.action)
		good := []api.Code{code(api.ErrTable, one.good), code(api.OK, one.good), code(api.ErrDead, one.good)}
		checkMay(t, side(s, []int{11, 128}, good...))
		for at := range len(good) + 1 {
			list := slices.Insert(slices.Clone(good), at, code(api.ErrMti, one.wrong))
			checkCheck(t, side(s, []int{11, 128}, list...), one.want, 3, at)
			checkCheck(t, side(s, nil, list[:at+1]...), one.want, 3, at)
			checkCheck(t, side(s, nil, append(list, code(99, ""), list[at])...), one.want, 3, at)
		}
		for at := range good {
			list := slices.Clone(good)
			list[at].Text = one.wrong
			checkCheck(t, side(s, []int{11, 128}, list...), one.want, 3, at)
		}
		checkCheck(t, side(s, nil, code(api.OK, one.wrong)), one.want, 3, 0)
	}
}

// It is the action's spec by which the texts may be, and no other one's.
func TestCheckOfTextsByTheActionAlone(t *testing.T) {
	s := wide(0)
	for _, width := range []int{1, 2, 4, 20, 999} {
		checkMay(t, side(acting(s, fixed(39, width)), []int{38, 40}, code(api.OK, strings.Repeat("0", width))))
		checkCheck(t, side(acting(s, fixed(39, width)), []int{38, 40}, code(api.OK, "000")), api.ErrRange, 3, 0)
	}
	checkMay(t, side(acting(s, of(39, api.CPrint, api.FThree, 1, 999)), nil, code(api.OK, "any"), code(api.ErrCut, strings.Repeat(" ", 999))))
	checkCheck(t, side(acting(s, of(39, api.CPrint, api.FThree, 1, 999)), nil, code(api.OK, "any"), code(api.ErrCut, strings.Repeat(" ", 1000))), api.ErrRange, 3, 1)
}

func TestCheckOfCodesWithoutOk(t *testing.T) {
	checkCheck(t, side(left(), nil), api.ErrTable, 3, 0)
	checkCheck(t, side(left(), []int{11, 2}), api.ErrTable, 3, 0)
	all := allCodes()[1:]
	for n := range len(all) + 1 {
		checkCheck(t, side(left(), []int{11, 2}, all[:n]...), api.ErrTable, 3, n)
		checkCheck(t, side(left(), []int{11, 2}, all[len(all)-n:]...), api.ErrTable, 3, n)
		for at := range n + 1 {
			checkMay(t, side(left(), []int{11, 2}, slices.Insert(slices.Clone(all[:n]), at, code(api.OK, "00"))...))
		}
	}
}

func TestCheckOfAllShortListsOfCodes(t *testing.T) {
	some := []api.Code{code(api.OK, "96"), code(api.OK, "9"), code(api.ErrCut, "30"), code(api.ErrCut, "-0"), code(api.ErrDead, "00"), code(17, "00"), code(-1, "0"), {}}
	told := map[api.Errno]int{}
	eachList(some, 4, func(l []api.Code) {
		told[checkByReader(t, side(left(), []int{11}, l...))]++
		told[checkByReader(t, side(right(), nil, l...))]++
	})
	for _, err := range []api.Errno{api.OK, api.ErrArg, api.ErrTwice, api.ErrRange, api.ErrClass, api.ErrTable} {
		if told[err] == 0 {
			t.Errorf("no list of codes is told %d", err)
		}
	}
}

// P23.2: Code

// wrongSides: ones that may not be, by each of the three parts.
func wrongSides() []api.Side {
	list := []api.Side{
		{},
		side(api.Schema{}, []int{39, 39, 200, -1, 0, 11, 11}, code(api.ErrCut, "first"), code(api.ErrCut, "second"), code(-5, "below"), code(200, "above")),
		side(acting(left(), api.Spec{}), []int{11, 11, 5}, code(api.OK, "long text"), code(api.OK, "again"), code(api.ErrForm, "")),
		side(left(), []int{39, 11}, someCodes()...),
		side(left(), []int{11, 5, 39, 11, 128}, code(math.MinInt, "least"), code(math.MaxInt, "most"), code(api.OK, "")),
		side(left(), nil, code(17, "17"), code(api.ErrCut, "")),
		side(left(), []int{128, 2, 128}),
	}
	for _, s := range wrongSchemas(left())[:9] {
		list = append(list, side(s, []int{2, 41, 200}, someCodes()...))
	}
	return list
}

func TestCodeOfEachError(t *testing.T) {
	s := side(left(), nil, allCodes()...)
	for e := api.OK; e <= api.ErrDead; e++ {
		checkCode(t, s, e, strconv.Itoa(int(e)+10))
	}
	slices.Reverse(s.Codes)
	for e := api.OK; e <= api.ErrDead; e++ {
		checkCode(t, s, e, strconv.Itoa(int(e)+10))
	}
	for _, e := range eachErrno() {
		if e < 0 || e > 16 {
			checkCode(t, s, e, "10")
		}
		want := "96"
		switch e {
		case api.ErrCut:
			want = "30"
		case api.ErrTable:
			want = "12"
		case api.ErrDead:
			want = "9a"
		}
		checkCode(t, usual(), e, want)
	}
}

func TestCodeOfErrorsThatHaveNone(t *testing.T) {
	// With one of OK at each place, and with none.
	for at := range 4 {
		list := []api.Code{code(api.ErrCut, "30"), code(api.ErrForm, "31"), code(api.ErrTable, "12")}
		s := side(left(), nil, slices.Insert(slices.Clone(list), at, code(api.OK, "96"))...)
		for _, e := range eachErrno() {
			if !slices.ContainsFunc(list, func(one api.Code) bool { return one.Err == e }) {
				checkCode(t, s, e, "96")
				checkCode(t, side(left(), nil, list...), e, "")
			}
		}
		checkCode(t, s, api.ErrForm, "31")
		checkCode(t, side(left(), nil, list...), api.ErrForm, "31")
	}
	for _, e := range eachErrno() {
		checkCode(t, api.Side{}, e, "")
		checkCode(t, side(left(), []int{11}), e, "")
	}
}

func TestCodeOfSeveralOfOneError(t *testing.T) {
	for _, e := range eachErrno() {
		twice := []api.Code{code(api.ErrMore, "no"), code(e, "first"), code(api.ErrPad, "no"), code(e, "second"), code(api.OK, "other"), code(api.OK, "another")}
		if e == api.ErrMore || e == api.ErrPad {
			twice = twice[1:]
			twice = slices.Delete(twice, 1, 2)
		}
		checkCode(t, side(left(), nil, twice...), e, "first")
		// Nor is an empty text none.
		checkCode(t, side(left(), nil, append([]api.Code{code(e, "")}, twice...)...), e, "")
	}
	twice := []api.Code{code(api.ErrCut, "30"), code(api.OK, "first"), code(api.ErrForm, "31"), code(api.OK, "second")}
	checkCode(t, side(left(), nil, twice...), api.OK, "first")
	checkCode(t, side(left(), nil, twice...), api.ErrTag, "first")
	checkCode(t, side(left(), nil, twice...), -1, "first")
	checkCode(t, side(left(), nil, append([]api.Code{{}}, twice...)...), api.ErrTag, "")
}

func TestCodeOfSidesThatMayNotBe(t *testing.T) {
	s := wrongSides()[1]
	checkCode(t, s, api.ErrCut, "first")
	checkCode(t, s, -5, "below")
	checkCode(t, s, 200, "above")
	checkCode(t, s, api.OK, "")
	checkCode(t, s, -6, "")
	for _, s := range append(wrongSides(), others()...) {
		for _, e := range eachErrno() {
			checkCode(t, s, e, wantCode(s, e))
		}
	}
	eachList([]api.Code{code(api.OK, "a"), code(api.OK, ""), code(api.ErrCut, "b"), code(api.ErrCut, "c"), code(-1, "d"), code(17, "")}, 4, func(l []api.Code) {
		for _, e := range []api.Errno{api.OK, api.ErrCut, api.ErrForm, -1, 17, 18} {
			checkCode(t, side(api.Schema{}, nil, l...), e, wantCode(side(api.Schema{}, nil, l...), e))
		}
	})
}

// P23.2: Build, by the MTI

// faults: of each error, at some fields, those too that are none.
func faults() []api.Fault {
	list := []api.Fault{{}}
	for _, e := range eachErrno() {
		for _, field := range []int{-1, 0, 1, 39, 129, math.MaxInt} {
			list = append(list, api.Fault{Err: e, Field: field})
		}
	}
	return list
}

func TestBuildOfEachMti(t *testing.T) {
	s := usual()
	asking := 0
	for i := range 10000 {
		text := strconv.Itoa(10000 + i)[1:]
		m := message(text, 11, "000001", 40, "101")
		f := api.Fault{Err: api.ErrCut, Field: 41}
		if text[2] != '0' && text[2] != '2' {
			checkNone(t, s, m, f)
			checkNone(t, issuers(), m, f)
			continue
		}
		asking++
		// The version need not be the schema's.
		want := text[:2] + string(text[2]+1) + text[3:]
		checkBuilt(t, s, m, f, message(want, 11, "000001", 39, "30"))
		checkBuilt(t, issuers(), m, f, message(want, 11, "000001", 39, "904"))
	}
	if asking != 2000 {
		t.Errorf("%d MTIs ask", asking)
	}
	checkBuilt(t, s, message("0220"), api.Fault{}, message("0230", 39, "96"))
	checkBuilt(t, s, message("1420"), api.Fault{}, message("1430", 39, "96"))
	checkBuilt(t, s, message("9909"), api.Fault{}, message("9919", 39, "96"))
}

func TestBuildOfTextsThatAreNoMtis(t *testing.T) {
	list := []string{"", "0", "02", "020", "02000", "0200 ", " 0200", "02a0", "a200", "0a00", "020a", "02 0", "0200\n", "\x02\x00", "\x02\x00\x00\x00", "02\x000", "+200", "-200", "02.0", "02:0", "02/0", "\xb0200", "\u0660\u0662", "02002", "00200", strings.Repeat("0", 1000)}
	for _, text := range list {
		for _, s := range append(others(), wrongSides()...) {
			for _, f := range []api.Fault{{}, {Err: api.ErrCut, Field: 11}, {Err: 99, Field: 999}} {
				checkNone(t, s, message(text), f)
				checkNone(t, s, message(text, 11, "000001", 39, "00"), f)
			}
		}
	}
	checkNone(t, api.Side{}, api.Message{}, api.Fault{})
}

// P23.2: Build, by the fields

func TestBuildOfFields(t *testing.T) {
	s := usual()
	cut := api.Fault{Err: api.ErrCut, Field: 70}
	checkBuilt(t, s, full(), cut, message("0210", 2, "4111", 3, "000000", 11, "000007", 39, "30", 41, "term  01", 64, "001", 65, "652", 128, "\x00\x01\x02\x03\x04\x05\x06\xff"))
	checkBuilt(t, s, message("0200"), cut, message("0210", 39, "30"))
	checkBuilt(t, s, message("0200", 38, "abC123", 40, "101", 70, "301"), cut, message("0210", 39, "30"))
	checkBuilt(t, s, message("0200", 2, "4"), cut, message("0210", 2, "4", 39, "30"))
	checkBuilt(t, s, message("0200", 128, "01234567"), cut, message("0210", 39, "30", 128, "01234567"))
	s.Echo = nil
	checkBuilt(t, s, full(), cut, message("0210", 39, "30"))
	checkBuilt(t, s, message("0200"), cut, message("0210", 39, "30"))
	s.Echo = []int{38}
	checkBuilt(t, s, full(), cut, message("0210", 38, "abC123", 39, "30"))
	s.Echo = []int{40}
	checkBuilt(t, s, full(), cut, message("0210", 39, "30", 40, "101"))
	s.Echo = []int{38, 40}
	checkBuilt(t, s, full(), cut, message("0210", 38, "abC123", 39, "30", 40, "101"))
}

// It is the fault's error alone that tells which text there is.
func TestBuildOfEachFault(t *testing.T) {
	for _, s := range append(others(), wrongSides()...) {
		for _, f := range faults() {
			checkBuilt(t, side(s.Schema, nil, s.Codes...), message("0200", 11, "000001"), f, message("0210", 39, wantCode(s, f.Err)))
			checkBuildByReader(t, s, full(), f)
		}
	}
	checkBuilt(t, api.Side{}, message("0200", 11, "000001"), api.Fault{Err: api.ErrCut}, message("0210", 39, ""))
	checkBuilt(t, api.Side{}, message("0200"), api.Fault{}, message("0210", 39, ""))
	s := side(api.Schema{}, []int{11}, code(17, "a long text, of 17"), code(api.ErrCut, ""))
	checkBuilt(t, s, message("0200", 11, "1"), api.Fault{Err: 17}, message("0210", 11, "1", 39, "a long text, of 17"))
	checkBuilt(t, s, message("0200", 11, "1"), api.Fault{Err: api.ErrCut}, message("0210", 11, "1", 39, ""))
}

// The schema isn't looked at: what it has not, or lets not be, is echoed, too.
func TestBuildWhateverTheSchema(t *testing.T) {
	x := message("0220", 2, "not digits", 5, "", 11, "1", 37, strings.Repeat("long", 500), 55, "\x5a", 128, "")
	want := message("0230", 2, "not digits", 5, "", 11, "1", 37, strings.Repeat("long", 500), 39, "30", 55, "\x5a", 128, "")
	echo := []int{128, 55, 37, 11, 5, 2}
	list := append(wrongSchemas(left()), left(), right(), wide(0), wide(7), dialect.Acquirer(), dialect.Issuer(), api.Schema{Style: api.SAscii})
	for _, s := range list {
		checkBuilt(t, side(s, echo, someCodes()...), x, api.Fault{Err: api.ErrCut, Field: 3}, want)
		checkBuildByReader(t, side(s, echo), x, api.Fault{Err: api.ErrCut, Field: 3})
	}
}

func TestBuildOfEachNumber(t *testing.T) {
	list := []int{math.MinInt, math.MinInt + 1, -1 << 32, -128, math.MaxInt, 1 << 32, 1<<32 + 39, 1<<8 + 39, 1 << 16}
	for no := -5; no <= 140; no++ {
		list = append(list, no)
	}
	f := api.Fault{Err: api.ErrTable, Field: 39}
	for _, no := range list {
		x := message("0200", no, "its")
		switch {
		case no == api.Action:
			checkBuilt(t, side(left(), []int{no}, someCodes()...), x, f, message("0210", 39, "12"))
		case no < api.Action:
			checkBuilt(t, side(left(), []int{no}, someCodes()...), x, f, message("0210", no, "its", 39, "12"))
		default:
			checkBuilt(t, side(left(), []int{no}, someCodes()...), x, f, message("0210", 39, "12", no, "its"))
		}
		// What isn't echoed isn't there, though a number beside it is echoed.
		for _, other := range []int{no ^ 1, no ^ 64, no ^ 256, no ^ 1<<32, -no} {
			if other != no && other != api.Action {
				checkBuilt(t, side(left(), []int{other}, someCodes()...), x, f, message("0210", 39, "12"))
			}
		}
	}
	// All of them at once, in either order, with numbers so far apart that they can't be subtracted.
	x := message("0200")
	for _, no := range list {
		x.Fields = append(x.Fields, api.Value{No: no, Text: strconv.Itoa(no)})
	}
	slices.Sort(list)
	want := message("0210")
	for _, no := range list {
		text := strconv.Itoa(no)
		if no == api.Action {
			text = "12"
		}
		want.Fields = append(want.Fields, api.Value{No: no, Text: text})
	}
	for range 2 {
		for range 2 {
			checkBuilt(t, side(left(), list, someCodes()...), x, f, want)
			slices.Reverse(list)
		}
		slices.Reverse(x.Fields)
	}
}

func TestBuildInAnyOrder(t *testing.T) {
	f := api.Fault{Err: api.ErrCut, Field: 12}
	want := message("0210", 2, "a", 11, "b", 38, "c", 39, "30", 41, "d", 128, "e")
	eachOrder([]int{2, 11, 38, 41, 128}, func(l []int) {
		checkBuilt(t, side(left(), l, someCodes()...), message("0200", 2, "a", 11, "b", 38, "c", 41, "d", 128, "e"), f, want)
		checkBuilt(t, side(left(), l, someCodes()...), message("0200", 128, "e", 41, "d", 40, "no", 38, "c", 11, "b", 2, "a"), f, want)
	})
	eachOrder(message("", 2, "a", 11, "b", 38, "c", 39, "no", 41, "d", 128, "e").Fields, func(l []api.Value) {
		checkBuilt(t, side(left(), []int{41, 2, 128, 38, 11}, someCodes()...), api.Message{Mti: "0200", Fields: l}, f, want)
	})
	eachOrder(someCodes(), func(l []api.Code) {
		checkBuilt(t, side(left(), []int{41, 2, 128, 38, 11}, l...), message("0200", 11, "b"), f, message("0210", 11, "b", 39, "30"))
	})
}

// Of several fields of one number it is the first one's text, wherever they stand.
func TestBuildOfSeveralFieldsOfOneNumber(t *testing.T) {
	f := api.Fault{Err: api.ErrCut, Field: 12}
	rest := message("", 2, "a", 41, "b", 64, "c").Fields
	for first := range len(rest) + 1 {
		for second := first + 1; second <= len(rest)+1; second++ {
			for _, no := range []int{11, 0, -7, 200} {
				for _, texts := range [][2]string{{"first", "second"}, {"", "second"}, {"first", ""}, {"same", "same"}} {
					x := api.Message{Mti: "0200", Fields: slices.Insert(slices.Clone(rest), first, api.Value{No: no, Text: texts[0]})}
					x.Fields = slices.Insert(x.Fields, second, api.Value{No: no, Text: texts[1]})
					want := msg.With(message("0210", 2, "a", 39, "30", 64, "c"), no, texts[0])
					checkBuilt(t, side(left(), []int{64, no, 2}, someCodes()...), x, f, want)
					checkBuilt(t, side(left(), []int{no, 64, no, 2, 2, no}, someCodes()...), x, f, want)
				}
			}
		}
	}
	many := message("0200")
	for i := range 100 {
		many.Fields = append(many.Fields, api.Value{No: 11, Text: strconv.Itoa(i)})
	}
	checkBuilt(t, usual(), many, f, message("0210", 11, "0", 39, "30"))
}

// The action is always the code's.
func TestBuildOfTheAction(t *testing.T) {
	f := api.Fault{Err: api.ErrTable, Field: 39}
	for _, echo := range [][]int{{39}, {39, 39}, {11, 39}, {39, 11}, {11, 39, 2, 39}, {41, 39}, {11}, nil} {
		for _, codes := range [][]api.Code{someCodes(), nil, {code(api.ErrTable, "")}, {code(api.OK, "a text")}} {
			s := side(left(), echo, codes...)
			for _, x := range []api.Message{
				message("0200"),
				message("0200", 39, "05"),
				message("0200", 39, "05", 39, "06"),
				message("0200", 11, "000001", 39, "05", 41, "terminal"),
				message("0200", 39, "05", 11, "000001", 39, "07", 2, "4"),
				message("0200", 38, "abC123", 39, "", 40, "101"),
			} {
				answer, ok := Build(s, x, f)
				if text, there := msg.Get(answer, 39); !ok || !there || text != wantCode(s, api.ErrTable) {
					t.Errorf("Build(%s; %s): %s, %v", told(s), said(x), said(answer), ok)
				}
				checkBuildByReader(t, s, x, f)
			}
		}
	}
	checkBuilt(t, side(left(), []int{39}, someCodes()...), message("0200", 39, "05"), f, message("0210", 39, "12"))
	checkBuilt(t, usual(), message("0200", 39, "05"), f, message("0210", 39, "12"))
	checkBuilt(t, side(left(), []int{39, 11}), message("0200", 11, "000001", 39, "05"), f, message("0210", 11, "000001", 39, ""))
}

func TestBuildOfFieldsEchoedTwice(t *testing.T) {
	f := api.Fault{Err: api.ErrCut, Field: 12}
	want := message("0210", 2, "4111", 11, "000007", 39, "30", 41, "term  01")
	for _, echo := range [][]int{{11, 2, 41, 11}, {11, 11, 11, 2, 41}, {41, 2, 11, 41, 2, 11}, {2, 11, 41, 200, 200, -1, -1, 0}, {5, 2, 5, 11, 5, 41, 5}} {
		checkBuilt(t, side(left(), echo, someCodes()...), full(), f, want)
	}
	checkBuilt(t, side(left(), []int{5, 200, 0, -1, 70}, someCodes()...), full(), f, message("0210", 39, "30"))
}

func TestBuildByAllShortLists(t *testing.T) {
	var bodies [][]api.Value
	eachList(message("", 11, "a", 11, "b", 39, "c", 41, "d", -1, "e").Fields, 3, func(l []api.Value) { bodies = append(bodies, slices.Clone(l)) })
	eachList([]int{11, 41, 39, -1, 200}, 3, func(l []int) {
		s := side(left(), l, someCodes()...)
		for _, body := range bodies {
			checkBuildByReader(t, s, api.Message{Mti: "0200", Fields: body}, api.Fault{Err: api.ErrCut, Field: 55})
		}
	})
}

// P23.3

// values: texts that may be a field's.
func values(s api.Spec) []string {
	switch s.Class {
	case api.CTlv:
		return []string{"\x5a\x00", "\x9f\x02\x01\xff\x82\x00"}
	case api.CBytes:
		return []string{strings.Repeat("\x00", s.Min), strings.Repeat("\xff", s.Max)}
	case api.CPrint:
		return []string{strings.Repeat(" ", s.Min), strings.Repeat("~", s.Max)}
	}
	return []string{strings.Repeat("0", s.Min), strings.Repeat("9", s.Max)}
}

func TestAnswersAreValid(t *testing.T) {
	for _, s := range others() {
		version := strconv.Itoa(s.Schema.Version)
		for _, which := range []int{0, 1} {
			var all []api.Value
			for _, one := range s.Schema.Fields {
				all = append(all, api.Value{No: one.No, Text: values(one)[which]})
			}
			for _, rest := range []string{"200", "220", "804", "999", "029", "210", "430", "240"} {
				m := api.Message{Mti: version + rest, Fields: all}
				for e := api.OK; e <= api.ErrDead; e++ {
					checkAnswer(t, s, m, api.Fault{Err: e, Field: 2})
				}
				checkAnswer(t, s, api.Message{Mti: version + rest}, api.Fault{Err: api.ErrCut, Field: 1})
				// With each field alone, and with all but each.
				for at := range all {
					m.Fields = all[at : at+1]
					checkAnswer(t, s, m, api.Fault{Err: api.ErrTable, Field: 39})
					m.Fields = slices.Delete(slices.Clone(all), at, at+1)
					checkAnswer(t, s, m, api.Fault{Err: api.ErrForm, Field: 39})
				}
			}
		}
	}
}

func TestAnswersByAllChoices(t *testing.T) {
	fields := message("", 2, "4111", 11, "000007", 39, "05", 41, "term  01", 65, "652").Fields
	for bits := range 1 << 5 {
		for echoed := range 1 << 5 {
			echo := someOf([]int{65, 2, 41, 11, 70}, echoed)
			checkAnswer(t, side(left(), echo, someCodes()...), api.Message{Mti: "0420", Fields: someOf(fields, bits)}, api.Fault{Err: api.ErrClass, Field: 48})
		}
	}
}

func TestAnswersByEachActionAndEachText(t *testing.T) {
	for _, one := range wrongTexts() {
		s := side(acting(left(), one.action), []int{11, 128}, code(api.ErrCut, one.good), code(api.OK, one.good))
		for _, f := range faults() {
			checkAnswer(t, s, message("0200", 11, "000001", 128, "01234567"), f)
		}
	}
}

// What was read ahead of a fault of the bytes is valid, and so is the answer to it.
func TestAnswersToWhatWasRead(t *testing.T) {
	for _, s := range []api.Side{acquirers(), issuers(), usual()} {
		whole := api.Message{Mti: strconv.Itoa(s.Schema.Version) + "200"}
		for _, one := range s.Schema.Fields {
			whole.Fields = append(whole.Fields, api.Value{No: one.No, Text: values(one)[0]})
		}
		bytes, _ := wire.Encode(s.Schema, whole)
		answers := 0
		for n := range len(bytes) + 1 {
			m, fault := strict.Decode(s.Schema, bytes[:n])
			if m.Mti == "" {
				checkNone(t, s, m, fault)
				continue
			}
			checkAnswer(t, s, m, fault)
			answers++
			answer, _ := Build(s, m, fault)
			want := Code(s, api.ErrCut)
			if n == len(bytes) {
				want = Code(s, api.OK)
			}
			if text, _ := msg.Get(answer, 39); text != want {
				t.Errorf("the answer to %d bytes of %d, %v: %q", n, len(bytes), fault, text)
			}
		}
		if answers < 50 {
			t.Errorf("%d answers", answers)
		}
	}
}

// The rules of all layers

// roomy: the same list, with spare room behind it.
func roomy[T any](list []T, room T) []T {
	return append(slices.Clone(list), room, room, room)[:len(list)]
}

// room: a copy of the list, and of its spare room.
func room[T any](list []T) []T { return slices.Clone(list[:cap(list)]) }

func overwrite[T any](list []T, by T) {
	all := list[:cap(list)]
	for at := range all {
		all[at] = by
	}
}

// bodies: messages of all sorts, of which some aren't valid.
func bodies() []api.Message {
	turned := full()
	slices.Reverse(turned.Fields)
	return []api.Message{
		full(),
		turned,
		message("0200"),
		message("0210", 11, "000001"),
		message("1220", 11, "first", 39, "05", 11, "second", -1, "", 200, "above", 0, "none"),
		message("no", 11, "000001", 2, "4111"),
		message("1800", 128, "last"),
	}
}

func TestWhatIsHandedInStays(t *testing.T) {
	for _, base := range append(others(), wrongSides()...) {
		for _, x := range bodies() {
			s := base
			s.Echo, s.Codes, s.Schema.Fields = roomy(s.Echo, 70), roomy(s.Codes, code(api.ErrCut, "room")), roomy(s.Schema.Fields, fixed(70, 70))
			s.Map = api.Map{Mtis: roomy([]api.Pair{{From: "0200", To: "1200"}}, api.Pair{From: "room"}), Rules: roomy([]api.Rule{{Kind: 1, From: 2, To: 3}}, api.Rule{})}
			x.Fields = roomy(x.Fields, api.Value{No: 39, Text: "room"})
			echo, codes, specs, values, mtis := room(s.Echo), room(s.Codes), room(s.Schema.Fields), room(x.Fields), room(s.Map.Mtis)
			Check(s)
			for _, e := range []api.Errno{api.OK, api.ErrCut, api.ErrTag, -1, 99} {
				Code(s, e)
				Build(s, x, api.Fault{Err: e, Field: 2})
			}
			if !slices.Equal(echo, room(s.Echo)) || !slices.Equal(codes, room(s.Codes)) || !slices.Equal(specs, room(s.Schema.Fields)) || !slices.Equal(values, room(x.Fields)) || !slices.Equal(mtis, room(s.Map.Mtis)) {
				t.Errorf("%s, %s: a list that was handed in, or its spare room, was changed", told(s), said(x))
			}
		}
	}
}

func TestWhatIsAnsweredIsNewMemory(t *testing.T) {
	f := api.Fault{Err: api.ErrCut, Field: 70}
	for _, base := range append(others(), wrongSides()...) {
		for _, x := range bodies() {
			s := base
			s.Echo, x.Fields = roomy(s.Echo, 70), roomy(x.Fields, api.Value{No: 130, Text: "room"})
			want, ok := wantBuild(s, x, f)
			if !ok {
				continue
			}
			one, _ := Build(s, x, f)
			two, _ := Build(s, x, f)
			before, echo := room(x.Fields), room(s.Echo)
			// All of the one answer is overwritten, its spare room too.
			overwrite(one.Fields, api.Value{No: -1, Text: "overwritten"})
			if !msg.Same(two, want) || !slices.Equal(before, room(x.Fields)) || !slices.Equal(echo, room(s.Echo)) {
				t.Errorf("Build(%s; %s): the answer shares memory", told(s), said(x))
			}
			checkBuilt(t, s, x, f, want)
			// Nor does it change with what was handed in.
			overwrite(x.Fields, api.Value{No: -1, Text: "overwritten"})
			overwrite(s.Echo, -1)
			overwrite(s.Codes, code(api.OK, "overwritten"))
			if !msg.Same(two, want) {
				t.Errorf("the answer hangs on what was handed in: %s; want %s", said(two), said(want))
			}
		}
	}
}

func TestNilAndEmptyListsAreOne(t *testing.T) {
	f := api.Fault{Err: api.ErrCut, Field: 11}
	for _, echo := range [][]int{nil, {}, make([]int, 0, 3)} {
		for _, fields := range [][]api.Value{nil, {}, make([]api.Value, 0, 3)} {
			checkMay(t, side(left(), echo, someCodes()...))
			checkBuilt(t, side(left(), echo, someCodes()...), api.Message{Mti: "0200", Fields: fields}, f, message("0210", 39, "30"))
			checkBuilt(t, side(left(), []int{11, 2}, someCodes()...), api.Message{Mti: "0200", Fields: fields}, f, message("0210", 39, "30"))
			checkBuilt(t, side(left(), echo, someCodes()...), full(), f, message("0210", 39, "30"))
			checkNone(t, side(left(), echo, someCodes()...), api.Message{Mti: "0210", Fields: fields}, f)
		}
		for _, codes := range [][]api.Code{nil, {}, make([]api.Code, 0, 3)} {
			s := api.Side{Schema: left(), Echo: echo, Codes: codes}
			checkCheck(t, s, api.ErrTable, 3, 0)
			checkCode(t, s, api.ErrCut, "")
			checkCode(t, s, api.OK, "")
			checkBuilt(t, s, full(), f, message("0210", 39, ""))
		}
	}
	for _, specs := range [][]api.Spec{nil, {}, make([]api.Spec, 0, 3)} {
		checkCheck(t, side(api.Schema{Style: api.SAscii, Fields: specs}, nil, someCodes()...), api.ErrNone, 1, 1)
	}
}

// What was told once tells nothing of what comes behind it.
func TestNothingIsKept(t *testing.T) {
	s := usual()
	x := message("0200", 3, "000000", 11, "000001", 41, "terminal")
	f := api.Fault{Err: api.ErrCut, Field: 42}
	for range 3 {
		checkMay(t, s)
		checkBuilt(t, s, x, f, message("0210", 3, "000000", 11, "000001", 39, "30", 41, "terminal"))
		s.Codes[0].Text = "31"
		s.Echo[1] = 70
		checkCode(t, s, api.ErrCut, "31")
		checkBuilt(t, s, x, f, message("0210", 3, "000000", 39, "31", 41, "terminal"))
		s.Echo[1] = 41
		checkCheck(t, s, api.ErrTwice, 2, 1)
		s.Echo[1] = 11
		s.Codes[0].Text = "3"
		checkCheck(t, s, api.ErrRange, 3, 0)
		s.Codes[0].Text = "30"
		s.Schema.Fields[4].No = 38
		checkCheck(t, s, api.ErrArg, 1, 0)
		s.Schema.Fields[4].No = 39
	}
}

func TestLongListsEnd(t *testing.T) {
	f := api.Fault{Err: api.ErrCut, Field: 42}
	long := side(left(), make([]int, 1<<20), make([]api.Code, 1<<20)...)
	checkCheck(t, long, api.ErrNone, 2, 0)
	checkCode(t, long, api.ErrDead, "")
	checkBuilt(t, long, full(), f, message("0210", 39, ""))
	for at := range long.Echo {
		long.Echo[at] = 11
	}
	checkCheck(t, long, api.ErrTwice, 2, 1)
	checkBuilt(t, long, full(), f, message("0210", 11, "000007", 39, ""))
	long.Echo = nil
	for at := range long.Codes {
		long.Codes[at].Text = "00"
	}
	checkCheck(t, long, api.ErrTwice, 3, 1)
	// Both lists are long, and have nothing twice.
	x := message("0200")
	for no := 1 << 17; no > 0; no-- {
		x.Fields = append(x.Fields, api.Value{No: no, Text: "a"})
		long.Echo = append(long.Echo, -no, no)
	}
	answer, ok := Build(long, x, f)
	if text, _ := msg.Get(answer, api.Action); !ok || len(answer.Fields) != 1<<17 || answer.Fields[0].No != 1 || text != "00" {
		t.Errorf("a long answer: %s, %v", said(answer), ok)
	}
	text := strings.Repeat("0200", 1<<18)
	checkNone(t, usual(), message(text), f)
	checkBuilt(t, usual(), message("0200", 11, text), f, message("0210", 11, text, 39, "30"))
	checkCheck(t, side(left(), nil, code(api.OK, text)), api.ErrRange, 3, 0)
	s := left()
	s.Fields = append(s.Fields, make([]api.Spec, 1<<18)...)
	checkCheck(t, side(s, nil, someCodes()...), api.ErrArg, 1, 0)
}

func FuzzRejects(f *testing.F) {
	f.Add("\x0b\x29", "\x02\x00", "30", "96", "0200", 3, "000000", 11, "000001", 2, 41)
	f.Add("\x27\x0b\x0b", "\x00\x00\x11", "a", "", "1420", 39, "05", 39, "06", 17, 0)
	f.Fuzz(func(t *testing.T, echo, errs, text, other, mti string, one int, value string, two int, late string, e, field int) {
		s := api.Side{}
		for _, b := range []byte(echo) {
			s.Echo = append(s.Echo, int(b))
		}
		for at, b := range []byte(errs) {
			s.Codes = append(s.Codes, code(api.Errno(int8(b)), []string{text, other}[at&1]))
		}
		fault := api.Fault{Err: api.Errno(e), Field: field}
		list := []api.Message{message(mti), message(mti, one, value), message(mti, one, value, two, late), message(mti, two, late, 39, value, two, value)}
		for _, schema := range []api.Schema{left(), right(), wide(0), dialect.Acquirer(), dialect.Issuer(), acting(left(), api.Spec{}), {}} {
			s.Schema = schema
			err := checkByReader(t, s)
			checkCode(t, s, fault.Err, wantCode(s, fault.Err))
			for _, m := range list {
				checkBuildByReader(t, s, m, fault)
				if err == api.OK && msg.Check(schema, m) == (api.Fault{}) {
					checkAnswer(t, s, m, fault)
				}
			}
		}
	})
}
