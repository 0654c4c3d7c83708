package rule

import (
	"math"
	"slices"
	"strconv"
	"strings"
	"testing"

	"groat/api"
	"groat/dialect"
	"groat/schema"
	"groat/spec"
)

// tagged is a list's bytes by layer 10: 9F 02 of two bytes.
const tagged = "\x9f\x02\x02\x01\x00"

var (
	kinds   = []int{api.RCopy, api.RDrop, api.RConst, api.RRepad, api.RTable}
	noKinds = []int{math.MinInt, -256, -6, -5, -1, 0, 6, 7, 255, 257, 1 << 32, 1<<32 + 1, 1<<32 + 5, math.MaxInt}
	// noFields: numbers that no field has.
	noFields = []int{math.MinInt, -128, -12, -2, -1, 1, 129, 130, 140, 256, 1<<32 + 12, math.MaxInt}
)

func of(no, class, form, least, greatest int) api.Spec {
	return api.Spec{No: no, Class: class, Form: form, Min: least, Max: greatest}
}

// fixed: so many digits.
func fixed(no, width int) api.Spec { return of(no, api.CDigits, api.FFixed, width, width) }

// with: a schema of these specs.
func with(specs ...api.Spec) api.Schema {
	return api.Schema{Style: api.SAscii, Version: 0, Fields: specs}
}

// left: the one schema, of each class and each form.
func left() api.Schema {
	return with(
		of(2, api.CDigits, api.FTwo, 12, 19),
		fixed(3, 6),
		fixed(12, 6),
		of(13, api.CAlnum, api.FFixed, 6, 6),
		of(39, api.CAlnum, api.FFixed, 2, 2),
		of(48, api.CPrint, api.FThree, 1, 999),
		of(49, api.CLetters, api.FFixed, 3, 3),
		of(52, api.CBytes, api.FFixed, 8, 8),
		of(55, api.CTlv, api.FThree, 1, 255),
	)
}

// right: the other one. 13, 49 and 52 stand in left alone, 14, 26 and 128 here alone.
func right() api.Schema {
	return api.Schema{Style: api.SBinary, Version: 1, Fields: []api.Spec{
		of(2, api.CDigits, api.FTwo, 1, 28),
		fixed(3, 4),
		fixed(12, 12),
		fixed(14, 6),
		fixed(26, 4),
		of(39, api.CDigits, api.FFixed, 3, 3),
		of(48, api.CPrint, api.FThree, 1, 999),
		of(55, api.CTlv, api.FThree, 1, 255),
		of(128, api.CBytes, api.FThree, 1, 999),
	}}
}

func pairs(fromsAndTos ...string) []api.Pair {
	var l []api.Pair
	for i := 0; i < len(fromsAndTos); i += 2 {
		l = append(l, api.Pair{From: fromsAndTos[i], To: fromsAndTos[i+1]})
	}
	return l
}

// actions: so many pairs of 39, from two letters or digits to three digits.
func actions(n int) []api.Pair {
	const signs = "0123456789ABCDEFGHIJKLMNOPQRSTUVWXYZ"
	var l []api.Pair
	for i := range n {
		from := string([]byte{signs[i/len(signs)], signs[i%len(signs)]})
		l = append(l, api.Pair{From: from, To: strconv.Itoa(100 + i)})
	}
	return l
}

// usual: of a Kind a rule that may go from left to right.
func usual(kind int) api.Rule {
	switch kind {
	case api.RCopy:
		return api.Rule{Kind: kind, From: 2, To: 2}
	case api.RDrop:
		return api.Rule{Kind: kind, From: 13}
	case api.RConst:
		return api.Rule{Kind: kind, To: 26, Text: "5999"}
	case api.RRepad:
		return api.Rule{Kind: kind, From: 12, To: 12}
	}
	return api.Rule{Kind: kind, From: 39, To: 39, Pairs: pairs("00", "000", "05", "100")}
}

// spoilt: of a Kind a rule at whose specs, Text or Pairs alone something isn't so, and layer 20's error; of RDrop there is none.
func spoilt(kind int) (api.Rule, api.Errno) {
	switch kind {
	case api.RCopy:
		return api.Rule{Kind: kind, From: 39, To: 39}, api.ErrClass
	case api.RConst:
		return api.Rule{Kind: kind, To: 26, Text: "599"}, api.ErrRange
	case api.RRepad:
		return api.Rule{Kind: kind, From: 2, To: 2}, api.ErrClass
	case api.RTable:
		return api.Rule{Kind: kind, From: 39, To: 39}, api.ErrTable
	}
	return usual(kind), api.OK
}

// table: a rule from 39 to 39 by these pairs.
func table(l ...api.Pair) api.Rule {
	return api.Rule{Kind: api.RTable, From: 39, To: 39, Pairs: l}
}

// told: a rule in few signs, since a table may be long.
func told(r api.Rule) string {
	return strconv.Itoa(r.Kind) + " from " + strconv.Itoa(r.From) + " to " + strconv.Itoa(r.To) + ", " + strconv.Quote(r.Text[:min(len(r.Text), 40)]) + ", " + strconv.Itoa(len(r.Pairs)) + " pairs"
}

func checkCheck(t *testing.T, r api.Rule, a, b api.Schema, want api.Errno) {
	t.Helper()
	if err := Check(r, a, b); err != want {
		t.Errorf("Check(%s), from %v to %v: %d; want %d", told(r), a, b, err, want)
	}
}

// checkBetween: from left to right.
func checkBetween(t *testing.T, r api.Rule, want api.Errno) {
	t.Helper()
	checkCheck(t, r, left(), right(), want)
}

func checkApply(t *testing.T, r api.Rule, b api.Schema, text string, no int, want string) {
	t.Helper()
	if got, err := Apply(r, b, text); got.No != no || got.Text != want || err != api.OK {
		t.Errorf("Apply(%s), to %v, of %.40q: %#v, %d; want %d: %.40q", told(r), b, text, got, err, no, want)
	}
}

func checkApplyErr(t *testing.T, r api.Rule, b api.Schema, text string, want api.Errno) {
	t.Helper()
	if got, err := Apply(r, b, text); got.No != 0 || got.Text != "" || err != want {
		t.Errorf("Apply(%s), to %v, of %.40q: %#v, %d; want none, %d", told(r), b, text, got, err, want)
	}
}

// P20.1: the Kind

func TestCheckOfUsualRules(t *testing.T) {
	for _, kind := range kinds {
		checkBetween(t, usual(kind), api.OK)
	}
	// The other way round what one may do the other one may not.
	checkCheck(t, usual(api.RCopy), right(), left(), api.ErrClass)
	checkCheck(t, usual(api.RDrop), right(), left(), api.ErrNone)
	checkCheck(t, usual(api.RConst), right(), left(), api.ErrNone)
	checkCheck(t, usual(api.RRepad), right(), left(), api.OK)
	checkCheck(t, usual(api.RTable), right(), left(), api.ErrRange)
}

func TestCheckOfTheDialects(t *testing.T) {
	a, b := dialect.Acquirer(), dialect.Issuer()
	checkCheck(t, api.Rule{Kind: api.RRepad, From: 12, To: 12}, a, b, api.OK)
	checkCheck(t, api.Rule{Kind: api.RRepad, From: 12, To: 12}, b, a, api.OK)
	checkCheck(t, api.Rule{Kind: api.RCopy, From: 12, To: 12}, a, b, api.ErrClass)
	checkCheck(t, api.Rule{Kind: api.RCopy, From: 43, To: 43}, a, b, api.OK)
	checkCheck(t, api.Rule{Kind: api.RCopy, From: 43, To: 43}, b, a, api.ErrClass)
	checkCheck(t, api.Rule{Kind: api.RDrop, From: 13}, a, b, api.OK)
	checkCheck(t, api.Rule{Kind: api.RDrop, From: 13}, b, a, api.ErrNone)
	checkCheck(t, api.Rule{Kind: api.RConst, To: 26, Text: "5999"}, a, b, api.OK)
	checkCheck(t, api.Rule{Kind: api.RConst, To: 26, Text: "5999"}, b, a, api.ErrNone)
	checkCheck(t, table(pairs("00", "000", "05", "100")...), a, b, api.OK)
	checkCheck(t, table(pairs("000", "00", "100", "05")...), b, a, api.OK)
	for _, no := range numbersOf(dialect.Lossless().Has) {
		if no != 12 {
			checkCheck(t, api.Rule{Kind: api.RCopy, From: no, To: no}, a, b, api.OK)
			checkCheck(t, api.Rule{Kind: api.RCopy, From: no, To: no}, b, a, api.OK)
		}
	}
}

// numbersOf: the fields' numbers of which something holds.
func numbersOf(holds func(no int) bool) []int {
	var list []int
	for no := 2; no <= 128; no++ {
		if holds(no) {
			list = append(list, no)
		}
	}
	return list
}

// Whatever else is right or wrong, it is told ahead.
func TestCheckOfNoSuchKind(t *testing.T) {
	for _, kind := range noKinds {
		for _, r := range []api.Rule{{}, {From: 2, To: 2}, {From: 13}, {From: 12, To: 12}, {To: 26, Text: "5999"}, {From: 39, To: 39, Pairs: actions(2)}, {From: 1, To: -7}, {Text: "x"}, {Pairs: pairs("a", "b")}, {From: 129, To: 129, Text: "x", Pairs: make([]api.Pair, 300)}} {
			r.Kind = kind
			checkBetween(t, r, api.ErrArg)
			checkCheck(t, r, right(), left(), api.ErrArg)
			checkCheck(t, r, left(), left(), api.ErrArg)
			checkCheck(t, r, api.Schema{}, api.Schema{}, api.ErrArg)
		}
	}
}

// P20.1: From and To

func TestCheckOfFrom(t *testing.T) {
	for no := -3; no <= 260; no++ {
		_, has := schema.Find(left(), no)
		r := api.Rule{Kind: api.RDrop, From: no}
		if has {
			checkBetween(t, r, api.OK)
		} else {
			checkBetween(t, r, api.ErrNone)
			checkBetween(t, api.Rule{Kind: api.RCopy, From: no, To: 128}, api.ErrNone)
			checkBetween(t, api.Rule{Kind: api.RRepad, From: no, To: 12}, api.ErrNone)
			checkBetween(t, api.Rule{Kind: api.RTable, From: no, To: 39, Pairs: actions(3)}, api.ErrNone)
		}
		// A constant is made of none, of a field of left neither.
		if r := (api.Rule{Kind: api.RConst, From: no, To: 26, Text: "5999"}); no == 0 {
			checkBetween(t, r, api.OK)
		} else {
			checkBetween(t, r, api.ErrNone)
		}
	}
}

func TestCheckOfTo(t *testing.T) {
	for no := -3; no <= 260; no++ {
		if _, has := schema.Find(right(), no); !has {
			checkBetween(t, api.Rule{Kind: api.RCopy, From: 2, To: no}, api.ErrNone)
			checkBetween(t, api.Rule{Kind: api.RConst, To: no, Text: "5999"}, api.ErrNone)
			checkBetween(t, api.Rule{Kind: api.RRepad, From: 12, To: no}, api.ErrNone)
			checkBetween(t, api.Rule{Kind: api.RTable, From: 39, To: no, Pairs: actions(3)}, api.ErrNone)
		}
		// Of what is dropped none is made, a field of right neither.
		if r := (api.Rule{Kind: api.RDrop, From: 2, To: no}); no == 0 {
			checkBetween(t, r, api.OK)
		} else {
			checkBetween(t, r, api.ErrNone)
		}
	}
}

func TestCheckOfNumbersThatNoFieldHas(t *testing.T) {
	for _, kind := range kinds {
		for _, no := range noFields {
			r := usual(kind)
			r.From = no
			checkBetween(t, r, api.ErrNone)
			r = usual(kind)
			r.To = no
			checkBetween(t, r, api.ErrNone)
			r.From = no
			checkBetween(t, r, api.ErrNone)
		}
	}
	// Where a field is asked for none won't do.
	for _, kind := range []int{api.RCopy, api.RDrop, api.RRepad, api.RTable} {
		r := usual(kind)
		r.From = 0
		checkBetween(t, r, api.ErrNone)
	}
	for _, kind := range []int{api.RCopy, api.RConst, api.RRepad, api.RTable} {
		r := usual(kind)
		r.To = 0
		checkBetween(t, r, api.ErrNone)
	}
}

// A field of the one schema is none of the other one by that.
func TestCheckOfFieldsOfTheOtherSide(t *testing.T) {
	checkBetween(t, api.Rule{Kind: api.RCopy, From: 52, To: 128}, api.OK)
	checkBetween(t, api.Rule{Kind: api.RCopy, From: 128, To: 128}, api.ErrNone)
	checkBetween(t, api.Rule{Kind: api.RCopy, From: 52, To: 52}, api.ErrNone)
	checkBetween(t, api.Rule{Kind: api.RCopy, From: 128, To: 52}, api.ErrNone)
	checkBetween(t, api.Rule{Kind: api.RDrop, From: 26}, api.ErrNone)
	checkBetween(t, api.Rule{Kind: api.RConst, To: 49, Text: "EUR"}, api.ErrNone)
	checkBetween(t, api.Rule{Kind: api.RRepad, From: 3, To: 14}, api.OK)
	checkBetween(t, api.Rule{Kind: api.RRepad, From: 14, To: 3}, api.ErrNone)
	checkBetween(t, api.Rule{Kind: api.RRepad, From: 14, To: 14}, api.ErrNone)
	checkBetween(t, api.Rule{Kind: api.RTable, From: 49, To: 26, Pairs: pairs("EUR", "0978")}, api.OK)
	checkBetween(t, api.Rule{Kind: api.RTable, From: 26, To: 49, Pairs: pairs("0978", "EUR")}, api.ErrNone)
}

// P20.1: Text and Pairs

func TestCheckOfTextWhereNoneStands(t *testing.T) {
	for _, kind := range kinds {
		for _, text := range []string{" ", "0", "x", "\x00", "\xff", "5999", "4111111111111111", strings.Repeat("x", 70000)} {
			r := usual(kind)
			r.Text = text
			switch {
			case kind != api.RConst:
				checkBetween(t, r, api.ErrForm)
			case text == "5999":
				checkBetween(t, r, api.OK)
			case len(text) == 4:
				checkBetween(t, r, api.ErrClass)
			default:
				checkBetween(t, r, api.ErrRange)
			}
		}
	}
}

func TestCheckOfPairsWhereNoneStand(t *testing.T) {
	for _, kind := range kinds {
		for _, l := range [][]api.Pair{make([]api.Pair, 1), pairs("00", "000"), pairs("4111", "4111"), make([]api.Pair, 2), actions(256), actions(257), make([]api.Pair, 300)} {
			if r := usual(kind); kind != api.RTable {
				r.Pairs = l
				checkBetween(t, r, api.ErrForm)
				r.Text = "x"
				checkBetween(t, r, api.ErrForm)
				r.Text = ""
				checkBetween(t, r, api.ErrForm)
			}
		}
	}
}

// Of each choice of what is wrong the first is told, by the document's order.
func TestCheckTellsTheFirstFault(t *testing.T) {
	steps := []struct {
		want  api.Errno
		spoil func(r *api.Rule)
	}{
		{api.ErrArg, func(r *api.Rule) { r.Kind += 10 }},
		{api.ErrNone, func(r *api.Rule) { r.From = 26 }},
		{api.ErrNone, func(r *api.Rule) { r.To = 13 }},
		{api.ErrForm, func(r *api.Rule) {
			if r.Kind != api.RConst {
				r.Text = "5999"
			} else {
				r.Pairs = pairs("00", "000")
			}
		}},
		{api.ErrForm, func(r *api.Rule) {
			if r.Kind != api.RTable {
				r.Pairs = pairs("00", "000")
			} else {
				r.Text = "x"
			}
		}},
	}
	for _, kind := range kinds {
		for bits := range 1 << len(steps) {
			good, goodWant := usual(kind), api.OK
			bad, badWant := spoilt(kind)
			for at := len(steps) - 1; at >= 0; at-- {
				if bits>>at&1 == 1 {
					steps[at].spoil(&good)
					steps[at].spoil(&bad)
					goodWant, badWant = steps[at].want, steps[at].want
				}
			}
			checkBetween(t, good, goodWant)
			checkBetween(t, bad, badWant)
		}
	}
}

// P20.1: RCopy

func TestCheckOfCopies(t *testing.T) {
	for _, x := range []struct {
		from, to api.Spec
		want     api.Errno
	}{
		{of(7, 1, 2, 3, 9), of(7, 1, 2, 3, 9), api.OK},
		{of(7, 1, 2, 3, 9), of(9, 1, 2, 3, 9), api.OK},
		// The class.
		{of(7, 1, 2, 3, 9), of(7, 2, 2, 3, 9), api.ErrClass}, {of(7, 2, 2, 3, 9), of(7, 1, 2, 3, 9), api.ErrClass},
		{of(7, 1, 2, 3, 9), of(7, 3, 2, 3, 9), api.OK}, {of(7, 3, 2, 3, 9), of(7, 1, 2, 3, 9), api.ErrClass},
		{of(7, 2, 2, 3, 9), of(7, 3, 2, 3, 9), api.OK}, {of(7, 3, 2, 3, 9), of(7, 2, 2, 3, 9), api.ErrClass},
		{of(7, 3, 2, 3, 9), of(7, 4, 2, 3, 9), api.OK}, {of(7, 4, 2, 3, 9), of(7, 3, 2, 3, 9), api.ErrClass},
		{of(7, 4, 2, 3, 9), of(7, 5, 2, 3, 9), api.OK}, {of(7, 5, 2, 3, 9), of(7, 4, 2, 3, 9), api.ErrClass},
		{of(7, 6, 2, 3, 9), of(7, 5, 2, 3, 9), api.OK}, {of(7, 5, 2, 3, 9), of(7, 6, 2, 3, 9), api.ErrClass},
		{of(7, 6, 2, 3, 9), of(7, 6, 2, 3, 9), api.OK}, {of(7, 1, 2, 3, 9), of(7, 6, 2, 3, 9), api.ErrClass}, {of(7, 6, 2, 3, 9), of(7, 4, 2, 3, 9), api.ErrClass},
		// The lengths.
		{of(7, 1, 2, 3, 9), of(7, 1, 2, 2, 9), api.OK}, {of(7, 1, 2, 3, 9), of(7, 1, 2, 4, 9), api.ErrClass},
		{of(7, 1, 2, 3, 9), of(7, 1, 2, 3, 10), api.OK}, {of(7, 1, 2, 3, 9), of(7, 1, 2, 3, 8), api.ErrClass},
		{of(7, 1, 2, 3, 9), of(7, 1, 2, 1, 99), api.OK}, {of(7, 1, 2, 3, 9), of(7, 1, 2, 4, 8), api.ErrClass},
		{fixed(7, 6), fixed(7, 6), api.OK}, {fixed(7, 6), fixed(7, 7), api.ErrClass}, {fixed(7, 6), fixed(7, 5), api.ErrClass},
		// The form plays no part.
		{fixed(7, 6), of(7, 1, 2, 6, 6), api.OK}, {fixed(7, 6), of(7, 1, 3, 1, 999), api.OK}, {of(7, 1, 2, 6, 6), fixed(7, 6), api.OK},
		{of(7, 1, 3, 3, 9), of(7, 1, 2, 3, 9), api.OK}, {of(7, 1, 2, 3, 9), of(7, 1, 3, 3, 9), api.OK}, {of(7, 1, 2, 6, 7), fixed(7, 6), api.ErrClass}, {of(7, 1, 3, 1, 100), of(7, 1, 2, 1, 99), api.ErrClass},
	} {
		checkCheck(t, api.Rule{Kind: api.RCopy, From: x.from.No, To: x.to.No}, with(x.from), with(x.to), x.want)
	}
}

// manySpecs: of each class and form with several lengths; all of one number, most of them ones that may stand in a schema.
func manySpecs(no int) []api.Spec {
	var list []api.Spec
	for class := 0; class <= api.Classes+1; class++ {
		for form := 0; form <= api.Forms+1; form++ {
			for _, lengths := range [][2]int{{1, 1}, {6, 6}, {1, 6}, {6, 12}, {1, 99}, {1, 100}, {99, 999}, {0, 6}, {7, 6}, {1, 1000}} {
				list = append(list, of(no, class, form, lengths[0], lengths[1]))
			}
		}
	}
	return list
}

func TestCheckOfCopiesOfManySpecs(t *testing.T) {
	seen := map[api.Errno]int{}
	for _, from := range manySpecs(20) {
		for _, to := range manySpecs(30) {
			want := api.ErrClass
			if spec.Wider(to, from) {
				want = api.OK
			}
			seen[want]++
			checkCheck(t, api.Rule{Kind: api.RCopy, From: 20, To: 30}, with(from), with(to), want)
		}
	}
	if seen[api.OK] < 1000 || seen[api.ErrClass] < 1000 {
		t.Errorf("too few of a kind: %v", seen)
	}
}

// P20.1: RDrop

func TestCheckOfDrops(t *testing.T) {
	for _, one := range manySpecs(20) {
		checkCheck(t, api.Rule{Kind: api.RDrop, From: 20}, with(one), right(), api.OK)
		checkCheck(t, api.Rule{Kind: api.RDrop, From: 20}, with(one), api.Schema{}, api.OK)
		checkCheck(t, api.Rule{Kind: api.RDrop, From: 20, To: 20}, with(one), with(one), api.ErrNone)
		checkCheck(t, api.Rule{Kind: api.RDrop, From: 20, To: 12}, with(one), right(), api.ErrNone)
	}
}

// P20.1: RConst

func TestCheckOfConstants(t *testing.T) {
	for _, x := range []struct {
		to   int
		text string
		want api.Errno
	}{
		{26, "5999", api.OK}, {26, "0000", api.OK}, {26, "599", api.ErrRange}, {26, "59990", api.ErrRange}, {26, "", api.ErrRange}, {26, "599x", api.ErrClass}, {26, "5 99", api.ErrClass}, {26, "x", api.ErrRange},
		{2, "4", api.OK}, {2, strings.Repeat("4", 28), api.OK}, {2, strings.Repeat("4", 29), api.ErrRange}, {2, "", api.ErrRange}, {2, "4a", api.ErrClass},
		{48, "a text, 1", api.OK}, {48, " ", api.OK}, {48, strings.Repeat("~", 999), api.OK}, {48, strings.Repeat("~", 1000), api.ErrRange}, {48, "a\n", api.ErrClass}, {48, "\u00e9", api.ErrClass},
		{55, tagged, api.OK}, {55, "\x5a\x00", api.OK}, {55, "\x5a", api.ErrTag}, {55, "\x5a\x02\x41", api.ErrTag}, {55, "\x5a\x00\x5a\x00", api.ErrTag}, {55, "\x70\x00", api.ErrTag}, {55, "", api.ErrRange}, {55, strings.Repeat("\x70", 256), api.ErrRange},
		{128, "\x00\xff\n", api.OK}, {128, "", api.ErrRange}, {128, strings.Repeat("\xff", 999), api.OK}, {128, strings.Repeat("\xff", 1000), api.ErrRange},
	} {
		checkBetween(t, api.Rule{Kind: api.RConst, To: x.to, Text: x.text}, x.want)
	}
}

func TestCheckOfConstantsOfManySpecs(t *testing.T) {
	texts := []string{"", "7", "a", "\n", "123456", "abcdef", "ab 123", tagged, "12345678901", "1234567890123", strings.Repeat("0", 99), strings.Repeat("0", 100), strings.Repeat("0", 999), strings.Repeat("0", 1000)}
	for _, to := range manySpecs(20) {
		for _, text := range texts {
			r := api.Rule{Kind: api.RConst, To: 20, Text: text}
			checkCheck(t, r, left(), with(to), spec.Value(to, text))
			checkCheck(t, r, with(to), with(to), spec.Value(to, text))
			checkCheck(t, r, api.Schema{}, with(to), spec.Value(to, text))
		}
	}
}

// P20.1: RRepad

func TestCheckOfRepads(t *testing.T) {
	r := api.Rule{Kind: api.RRepad, From: 20, To: 30}
	for _, from := range []int{1, 2, 6, 12, 998, 999} {
		for _, to := range []int{1, 2, 6, 12, 998, 999} {
			checkCheck(t, r, with(fixed(20, from)), with(fixed(30, to)), api.OK)
		}
	}
	for _, x := range []struct{ from, to int }{{3, 3}, {3, 12}, {3, 14}, {12, 12}, {12, 26}} {
		checkBetween(t, api.Rule{Kind: api.RRepad, From: x.from, To: x.to}, api.OK)
	}
	for _, x := range []struct{ from, to int }{{2, 2}, {2, 12}, {12, 2}, {13, 12}, {39, 39}, {12, 48}, {12, 128}, {49, 12}, {52, 12}, {55, 55}, {48, 48}} {
		checkBetween(t, api.Rule{Kind: api.RRepad, From: x.from, To: x.to}, api.ErrClass)
	}
}

// Both ends, and of each both the class and the form, whatever the lengths are.
func TestCheckOfRepadsOfManySpecs(t *testing.T) {
	r := api.Rule{Kind: api.RRepad, From: 20, To: 30}
	for _, from := range manySpecs(20) {
		for _, to := range manySpecs(30) {
			want := api.ErrClass
			if from.Class == 1 && from.Form == 1 && to.Class == 1 && to.Form == 1 {
				want = api.OK
			}
			checkCheck(t, r, with(from), with(to), want)
		}
	}
}

// P20.1: RTable

func TestCheckOfTables(t *testing.T) {
	for _, n := range []int{1, 2, 3, 100, 255, 256} {
		checkBetween(t, table(actions(n)...), api.OK)
	}
	for _, n := range []int{257, 258, 300} {
		checkBetween(t, table(actions(n)...), api.ErrTable)
	}
	checkBetween(t, table(pairs("00", "000", "05", "000", "06", "000")...), api.OK)
	checkBetween(t, table(), api.ErrTable)
	checkBetween(t, table([]api.Pair{}...), api.ErrTable)
	checkBetween(t, table(make([]api.Pair, 0, 5)...), api.ErrTable)
	// No pairs aren't told by what the fields are like.
	checkBetween(t, api.Rule{Kind: api.RTable, From: 2, To: 2}, api.ErrTable)
	checkCheck(t, api.Rule{Kind: api.RTable, From: 2, To: 2}, with(of(2, 0, 0, 0, 0)), with(of(2, 0, 0, 0, 0)), api.ErrTable)
}

func TestCheckOfTablesWithAFromTwice(t *testing.T) {
	for n := 2; n <= 8; n++ {
		for second := 1; second < n; second++ {
			for first := range second {
				l := actions(n)
				l[second].From = l[first].From
				checkBetween(t, table(l...), api.ErrTable)
				l[second].To = l[first].To
				checkBetween(t, table(l...), api.ErrTable)
			}
		}
	}
	for _, first := range []int{0, 1, 254} {
		l := actions(256)
		l[255].From = l[first].From
		checkBetween(t, table(l...), api.ErrTable)
	}
}

// What is wrong with the table goes ahead of what is wrong with its texts, wherever they stand.
func TestCheckOfTablesAheadOfTheirTexts(t *testing.T) {
	checkBetween(t, table(pairs("x", "x", "00", "000", "00", "001")...), api.ErrTable)
	checkBetween(t, table(pairs("00", "00x", "00", "000")...), api.ErrTable)
	checkBetween(t, table(pairs("x", "000", "x", "000")...), api.ErrTable)
	checkBetween(t, table(make([]api.Pair, 2)...), api.ErrTable)
	checkBetween(t, table(make([]api.Pair, 300)...), api.ErrTable)
	checkBetween(t, table(make([]api.Pair, 1)...), api.ErrRange)
	l := actions(257)
	l[0] = api.Pair{From: "x", To: "x"}
	checkBetween(t, table(l...), api.ErrTable)
	checkBetween(t, table(l[:256]...), api.ErrRange)
}

// wrongPairs: of 39, and by which of layer 11's errors.
var wrongPairs = []struct {
	pair api.Pair
	want api.Errno
}{
	{api.Pair{From: "", To: "000"}, api.ErrRange}, {api.Pair{From: "z", To: "000"}, api.ErrRange}, {api.Pair{From: "zzz", To: "000"}, api.ErrRange}, {api.Pair{From: "z ", To: "000"}, api.ErrClass}, {api.Pair{From: "\xff\xff", To: "000"}, api.ErrClass},
	{api.Pair{From: "zz", To: ""}, api.ErrRange}, {api.Pair{From: "zz", To: "00"}, api.ErrRange}, {api.Pair{From: "zz", To: "0000"}, api.ErrRange}, {api.Pair{From: "zz", To: "00x"}, api.ErrClass}, {api.Pair{From: "zz", To: "0 0"}, api.ErrClass},
	// Of both From's is told.
	{api.Pair{From: "z", To: "00x"}, api.ErrRange}, {api.Pair{From: "z ", To: "00"}, api.ErrClass}, {api.Pair{From: "", To: "00x"}, api.ErrRange}, {api.Pair{From: "..", To: ""}, api.ErrClass}, {api.Pair{From: "z", To: ""}, api.ErrRange},
}

func TestCheckOfTablesTexts(t *testing.T) {
	for _, wrong := range wrongPairs {
		for _, n := range []int{1, 2, 3, 5, 255, 256} {
			for _, at := range []int{0, 1, 2, n / 2, n - 2, n - 1} {
				if at < 0 || at >= n {
					continue
				}
				l := actions(n)
				l[at] = wrong.pair
				checkBetween(t, table(l...), wrong.want)
			}
		}
	}
}

func TestCheckOfTablesTellsTheFirstText(t *testing.T) {
	for _, x := range wrongPairs {
		for _, y := range wrongPairs {
			if x.pair.From == y.pair.From {
				continue
			}
			for first := range 4 {
				for second := first + 1; second < 5; second++ {
					l := actions(5)
					l[first], l[second] = x.pair, y.pair
					checkBetween(t, table(l...), x.want)
				}
			}
		}
	}
}

// A text of the one side need not be a value of the other one.
func TestCheckOfTablesOfOtherFields(t *testing.T) {
	for _, x := range []struct {
		from, to int
		l        []api.Pair
		want     api.Errno
	}{
		{49, 55, pairs("EUR", tagged, "USD", "\x5a\x00"), api.OK},
		{49, 55, pairs("EUR", tagged, "USD", "\x5a"), api.ErrTag},
		{55, 12, pairs(tagged, "000000000001"), api.OK},
		{55, 12, pairs("\x5a\x00", "000000000000", tagged+"\x5a", "000000000001"), api.ErrTag},
		{48, 128, pairs("a text", "\x00\x01"), api.OK},
		{48, 128, pairs("\x00\x01", "a text"), api.ErrClass},
		{48, 128, pairs("a", "b", "c", ""), api.ErrRange},
		{52, 3, pairs("\x00\x01\x02\x03\x04\x05\x06\x07", "0001"), api.OK},
		{52, 3, pairs("\x00\x01\x02\x03\x04\x05\x06", "0001"), api.ErrRange},
		{2, 2, pairs("4111111111111111", "4"), api.OK},
		{2, 2, pairs("4", "4111111111111111"), api.ErrRange},
	} {
		checkBetween(t, api.Rule{Kind: api.RTable, From: x.from, To: x.to, Pairs: x.l}, x.want)
	}
}

// P20.1: schemas that may not be

func TestCheckTakesSchemasAsTheyAre(t *testing.T) {
	for _, kind := range kinds {
		a, b := left(), right()
		a.Style, a.Version, b.Style, b.Version = 0, -1, 77, 10
		checkCheck(t, usual(kind), a, b, api.OK)
		slices.Reverse(a.Fields)
		slices.Reverse(b.Fields)
		checkCheck(t, usual(kind), a, b, api.OK)
		// Of a number that stands twice the first spec counts.
		double := func(s api.Schema, spoil api.Spec) api.Schema {
			for at := 0; at < len(s.Fields); at += 2 {
				spoil.No = s.Fields[at].No
				s.Fields = slices.Insert(s.Fields, at+1, spoil)
			}
			return s
		}
		spoil := of(0, api.CTlv, api.FTwo, 50, 51)
		checkCheck(t, usual(kind), double(a, spoil), double(b, spoil), api.OK)
		if kind != api.RDrop {
			for at := range b.Fields {
				b.Fields[at] = of(b.Fields[at].No, api.CTlv, api.FTwo, 50, 51)
			}
			bad := map[int]api.Errno{api.RCopy: api.ErrClass, api.RConst: api.ErrRange, api.RRepad: api.ErrClass, api.RTable: api.ErrRange}
			checkCheck(t, usual(kind), a, double(b, fixed(0, 3)), bad[kind])
		}
		// Specs that play no part may be anything.
		a, b = left(), right()
		for at := range a.Fields {
			if no := a.Fields[at].No; no != usual(kind).From {
				a.Fields[at] = api.Spec{No: no}
			}
			if no := b.Fields[at].No; no != usual(kind).To {
				b.Fields[at] = api.Spec{No: no, Class: -1, Form: 99, Min: 5, Max: math.MinInt}
			}
		}
		checkCheck(t, usual(kind), a, b, api.OK)
	}
}

func TestCheckOfSchemasWithNoField(t *testing.T) {
	for _, kind := range kinds {
		for _, none := range []api.Schema{{}, with(), {Fields: []api.Spec{}}} {
			r := usual(kind)
			checkCheck(t, r, none, none, api.ErrNone)
			if kind != api.RConst {
				checkCheck(t, r, none, right(), api.ErrNone)
			} else {
				checkCheck(t, r, none, right(), api.OK)
			}
			if kind != api.RDrop {
				checkCheck(t, r, left(), none, api.ErrNone)
			} else {
				checkCheck(t, r, left(), none, api.OK)
			}
		}
	}
}

// wrongSpecs: such as no schema may have, by each error of layer 11.
func wrongSpecs(no int) []api.Spec {
	return []api.Spec{{No: no}, of(no, 0, 1, 6, 6), of(no, 7, 1, 6, 6), of(no, 1, 0, 6, 6), of(no, 1, 4, 6, 6), of(no, 1, 1, 0, 0), of(no, 1, 1, 6, 7), of(no, 1, 1, 7, 6), of(no, 1, 2, 1, 100), of(no, 1, 3, 1, 1000), of(no, 6, 1, 6, 6)}
}

func TestCheckOfSpecsThatMayNotStand(t *testing.T) {
	good := fixed(20, 6)
	for _, bad := range wrongSpecs(20) {
		for _, x := range []struct {
			a, b api.Spec
		}{{good, bad}, {bad, good}, {bad, bad}} {
			checkCheck(t, api.Rule{Kind: api.RCopy, From: 20, To: 20}, with(x.a), with(x.b), api.ErrClass)
			checkCheck(t, api.Rule{Kind: api.RDrop, From: 20}, with(x.a), with(x.b), api.OK)
			checkCheck(t, api.Rule{Kind: api.RTable, From: 20, To: 20, Pairs: pairs("123456", "123456")}, with(x.a), with(x.b), api.ErrArg)
			want := api.ErrArg
			if x.b == good {
				want = api.OK
			}
			checkCheck(t, api.Rule{Kind: api.RConst, To: 20, Text: "123456"}, with(x.a), with(x.b), want)
		}
		checkCheck(t, api.Rule{Kind: api.RTable, From: 20, To: 20, Pairs: pairs("12345", "123456")}, with(good), with(bad), api.ErrRange)
		checkCheck(t, api.Rule{Kind: api.RTable, From: 20, To: 20, Pairs: pairs("123456", "12345")}, with(bad), with(good), api.ErrArg)
		checkCheck(t, api.Rule{Kind: api.RTable, From: 20, To: 20, Pairs: pairs("123456", "")}, with(good), with(bad), api.ErrArg)
	}
	// A schema may have a number that no field has; then it is as good as any other one's.
	for _, no := range append(slices.Clone(noFields), 0) {
		checkCheck(t, api.Rule{Kind: api.RDrop, From: no}, with(fixed(no, 6)), right(), api.OK)
		checkCheck(t, api.Rule{Kind: api.RRepad, From: no, To: no}, with(fixed(no, 6)), with(fixed(no, 7)), api.OK)
		checkCheck(t, api.Rule{Kind: api.RCopy, From: no, To: no}, with(fixed(no, 6)), with(fixed(no, 6)), api.ErrClass)
		checkCheck(t, api.Rule{Kind: api.RConst, To: no, Text: "123456"}, left(), with(fixed(no, 6)), api.ErrArg)
	}
	checkCheck(t, api.Rule{Kind: api.RDrop, From: 20}, with(good), with(fixed(0, 6)), api.OK)
	checkCheck(t, api.Rule{Kind: api.RConst, To: 20, Text: "123456"}, with(fixed(0, 6)), with(good), api.OK)
}

// P20.1 and P20.2 by a second reader

// first: the first spec of a number, by another way than the program's.
func first(s api.Schema, no int) (api.Spec, bool) {
	at := slices.IndexFunc(s.Fields, func(one api.Spec) bool { return one.No == no })
	if at < 0 {
		return api.Spec{}, false
	}
	return s.Fields[at], true
}

// wantPairs: all that is wrong with a table, in its order.
func wantPairs(l []api.Pair, from, to api.Spec) []api.Errno {
	if len(l) == 0 || len(l) > 256 {
		return []api.Errno{api.ErrTable}
	}
	var wrong []api.Errno
	for i, p := range l {
		for _, q := range l[:i] {
			if p.From == q.From {
				return []api.Errno{api.ErrTable}
			}
		}
		wrong = append(wrong, spec.Value(from, p.From), spec.Value(to, p.To))
	}
	return wrong
}

// wantCheck: all that is wrong with a rule, line by line as the chapter says it; the first of it is told.
func wantCheck(r api.Rule, a, b api.Schema) api.Errno {
	from, hasFrom := first(a, r.From)
	to, hasTo := first(b, r.To)
	if r.Kind == 3 {
		hasFrom = r.From == 0
	}
	if r.Kind == 2 {
		hasTo = r.To == 0
	}
	wrong := []api.Errno{
		when(!slices.Contains(kinds, r.Kind), api.ErrArg),
		when(!hasFrom, api.ErrNone),
		when(!hasTo, api.ErrNone),
		when(r.Text != "" && r.Kind != 3, api.ErrForm),
		when(len(r.Pairs) > 0 && r.Kind != 5, api.ErrForm),
		when(r.Kind == 1 && !spec.Wider(to, from), api.ErrClass),
		when(r.Kind == 3, spec.Value(to, r.Text)),
		when(r.Kind == 4 && [4]int{from.Class, from.Form, to.Class, to.Form} != [4]int{1, 1, 1, 1}, api.ErrClass),
	}
	if r.Kind == 5 {
		wrong = append(wrong, wantPairs(r.Pairs, from, to)...)
	}
	for _, err := range wrong {
		if err != api.OK {
			return err
		}
	}
	return api.OK
}

func when(so bool, err api.Errno) api.Errno {
	if so {
		return err
	}
	return api.OK
}

// wantPad: digits by so many, one sign after the other from the right.
func wantPad(text string, width int) (string, bool) {
	if len(text) < 1 || len(text) > 999 || width < 1 || width > 999 || strings.Trim(text, "0123456789") != "" {
		return "", false
	}
	out := ""
	for at := len(text) - 1; at >= 0 || len(out) < width; at-- {
		sign := "0"
		if at >= 0 {
			sign = text[at : at+1]
		}
		if len(out) == width {
			if sign != "0" {
				return "", false
			}
			continue
		}
		out = sign + out
	}
	return out, true
}

// wantApply: by another way than the program's.
func wantApply(r api.Rule, b api.Schema, text string) (api.Value, api.Errno) {
	switch r.Kind {
	case 1:
		return api.Value{No: r.To, Text: text}, 0
	case 2:
		return api.Value{}, 0
	case 3:
		return api.Value{No: r.To, Text: r.Text}, 0
	case 4:
		to, ok := first(b, r.To)
		if !ok {
			return api.Value{}, api.ErrNone
		}
		if out, ok := wantPad(text, to.Min); ok {
			return api.Value{No: r.To, Text: out}, 0
		}
		return api.Value{}, api.ErrRange
	case 5:
		for _, p := range r.Pairs {
			if p.From == text {
				return api.Value{No: r.To, Text: p.To}, 0
			}
		}
		return api.Value{}, api.ErrTable
	}
	return api.Value{}, api.ErrArg
}

// checkByReader: both calls, against what a second reader says.
func checkByReader(t *testing.T, r api.Rule, a, b api.Schema, texts ...string) {
	t.Helper()
	checkCheck(t, r, a, b, wantCheck(r, a, b))
	for _, text := range texts {
		if want, err := wantApply(r, b, text); err != api.OK {
			checkApplyErr(t, r, b, text, err)
		} else {
			checkApply(t, r, b, text, want.No, want.Text)
		}
	}
}

// eachRule: of each Kind, and of some that there are not, all choices of fields, texts and tables.
func eachRule(do func(r api.Rule)) {
	numbers := []int{-1, 0, 2, 3, 12, 13, 14, 26, 39, 48, 49, 52, 55, 128, 129}
	tables := [][]api.Pair{nil, make([]api.Pair, 1), pairs("00", "000"), pairs("00", "000", "00", "001"), pairs("00", "000", "05", "10x"), pairs("123456", "123456"), pairs("EUR", tagged, "USD", ""), pairs("4111111111111111", "4"), actions(257)}
	for kind := -1; kind <= 7; kind++ {
		for _, from := range numbers {
			for _, to := range numbers {
				for _, text := range []string{"", "5999", "000000000001", "a", tagged} {
					for _, l := range tables {
						do(api.Rule{Kind: kind, From: from, To: to, Text: text, Pairs: l})
					}
				}
			}
		}
	}
}

func TestManyRules(t *testing.T) {
	texts := []string{"", "00", "123456", "000000123456", "EUR", "4111111111111111", tagged}
	seen := map[int]map[api.Errno]int{}
	eachRule(func(r api.Rule) {
		checkByReader(t, r, left(), right(), texts...)
		if seen[r.Kind] == nil {
			seen[r.Kind] = map[api.Errno]int{}
		}
		seen[r.Kind][Check(r, left(), right())]++
	})
	for _, kind := range kinds {
		if seen[kind][api.OK] < 5 || seen[kind][api.ErrNone] < 100 || seen[kind][api.ErrForm] < 20 {
			t.Errorf("too few of a kind: %d: %v", kind, seen[kind])
		}
	}
}

// P20.2

func TestApplyOfTheExamples(t *testing.T) {
	r := api.Rule{Kind: api.RRepad, From: 12, To: 12}
	checkApply(t, r, right(), "123456", 12, "000000123456")
	a, b := dialect.Acquirer(), dialect.Issuer()
	checkApply(t, r, b, "123456", 12, "000000123456")
	checkApply(t, r, b, "235959", 12, "000000235959")
	checkApply(t, r, a, "000000235959", 12, "235959")
	checkApplyErr(t, r, a, "240101235959", api.ErrRange)
}

// odd: of a Kind rules that may not be from left to right; all of them make 130 of anything.
func odd(kind int) []api.Rule {
	return []api.Rule{{Kind: kind, To: 130}, {Kind: kind, From: -4, To: 130}, {Kind: kind, From: 2, To: 130, Text: "Text"}, {Kind: kind, From: 2, To: 130, Pairs: make([]api.Pair, 300)}, {Kind: kind, From: 130, To: 130, Text: "Text", Pairs: pairs("a", "b", "a", "c")}}
}

// anyTexts: such as may be values, and others.
func anyTexts() []string {
	return []string{"", "a", "0", "00", "123456", "4111111111111111", " ", "\x00", "\xff\xfe", tagged, strings.Repeat("1", 999), strings.Repeat("0", 1000), strings.Repeat("x", 70000)}
}

func TestApplyOfCopies(t *testing.T) {
	for _, text := range anyTexts() {
		for _, b := range []api.Schema{right(), left(), {}} {
			checkApply(t, usual(api.RCopy), b, text, 2, text)
			for _, r := range odd(api.RCopy) {
				checkApply(t, r, b, text, 130, text)
			}
			for _, no := range append(slices.Clone(noFields), 0) {
				checkApply(t, api.Rule{Kind: api.RCopy, From: 2, To: no}, b, text, no, text)
			}
		}
	}
}

func TestApplyOfDrops(t *testing.T) {
	for _, text := range anyTexts() {
		for _, b := range []api.Schema{right(), left(), {}} {
			checkApply(t, usual(api.RDrop), b, text, 0, "")
			for _, r := range odd(api.RDrop) {
				checkApply(t, r, b, text, 0, "")
			}
		}
	}
}

func TestApplyOfConstants(t *testing.T) {
	for _, text := range anyTexts() {
		for _, b := range []api.Schema{right(), left(), {}} {
			checkApply(t, usual(api.RConst), b, text, 26, "5999")
			for _, r := range odd(api.RConst) {
				checkApply(t, r, b, text, 130, r.Text)
			}
			for _, made := range anyTexts() {
				checkApply(t, api.Rule{Kind: api.RConst, From: 7, To: -9, Text: made}, b, text, -9, made)
			}
		}
	}
}

func TestApplyOfNoSuchKind(t *testing.T) {
	for _, kind := range noKinds {
		for _, text := range anyTexts() {
			for _, b := range []api.Schema{right(), {}} {
				checkApplyErr(t, api.Rule{Kind: kind}, b, text, api.ErrArg)
				checkApplyErr(t, api.Rule{Kind: kind, From: 12, To: 12, Text: "x", Pairs: pairs(text, "y")}, b, text, api.ErrArg)
				for _, r := range odd(kind) {
					checkApplyErr(t, r, b, text, api.ErrArg)
				}
			}
		}
	}
}

func TestApplyOfRepads(t *testing.T) {
	r := api.Rule{Kind: api.RRepad, From: 7, To: 7}
	for _, x := range []struct {
		text  string
		width int
		want  string
	}{
		{"0", 1, "0"}, {"7", 1, "7"}, {"7", 3, "007"}, {"007", 1, "7"}, {"000", 1, "0"}, {"0", 5, "00000"}, {"123456", 6, "123456"}, {"012345", 6, "012345"}, {"012345", 5, "12345"}, {"012345", 7, "0012345"}, {"010", 2, "10"},
		{"1", 999, strings.Repeat("0", 998) + "1"}, {strings.Repeat("0", 998) + "1", 1, "1"}, {strings.Repeat("9", 999), 999, strings.Repeat("9", 999)}, {strings.Repeat("0", 999), 1, "0"}, {"0" + strings.Repeat("9", 998), 998, strings.Repeat("9", 998)},
	} {
		checkApply(t, r, with(fixed(7, x.width)), x.text, 7, x.want)
		// Its Min counts, whatever else the spec says.
		checkApply(t, r, with(of(7, -1, 9, x.width, -5)), x.text, 7, x.want)
		checkApply(t, r, with(of(7, api.CTlv, api.FThree, x.width, 999)), x.text, 7, x.want)
	}
}

func TestApplyOfRepadsThatCantBe(t *testing.T) {
	r := api.Rule{Kind: api.RRepad, From: 7, To: 7}
	for _, text := range []string{"", " ", "a", "1a", "a1", "0a1", "12 ", "-1", "+1", "1.0", "\x00", "0\x00", "\xb1", "\u0661", "\uff11", strings.Repeat("0", 1000), strings.Repeat("1", 1000), strings.Repeat("0", 70000), strings.Repeat("0", 998) + "x"} {
		for _, width := range []int{1, 2, 3, 12, 998, 999} {
			checkApplyErr(t, r, with(fixed(7, width)), text, api.ErrRange)
		}
	}
	// What would go is no nought.
	for _, x := range []struct {
		text  string
		width int
	}{{"12", 1}, {"10", 1}, {"107", 2}, {"0107", 2}, {"240101235959", 6}, {"100000235959", 6}, {"000001235959", 6}, {strings.Repeat("9", 999), 998}, {"1" + strings.Repeat("0", 998), 1}} {
		checkApplyErr(t, r, with(fixed(7, x.width)), x.text, api.ErrRange)
	}
	for _, width := range []int{math.MinInt, -999, -1, 0, 1000, 1001, 1 << 32, 1<<32 + 6, math.MaxInt} {
		for _, text := range []string{"", "0", "000000", "123456", strings.Repeat("0", 999), strings.Repeat("1", 1000), "x"} {
			checkApplyErr(t, r, with(fixed(7, width)), text, api.ErrRange)
			checkApplyErr(t, r, with(of(7, api.CDigits, api.FFixed, width, 6)), text, api.ErrRange)
		}
	}
}

// That there is no such field goes ahead of what the text is like.
func TestApplyOfRepadsToNoField(t *testing.T) {
	for _, text := range anyTexts() {
		for _, no := range append(slices.Clone(noFields), 0, 13, 49, 52) {
			checkApplyErr(t, api.Rule{Kind: api.RRepad, From: 12, To: no}, right(), text, api.ErrNone)
		}
		for _, b := range []api.Schema{{}, with(), with(fixed(11, 6), fixed(13, 6))} {
			checkApplyErr(t, usual(api.RRepad), b, text, api.ErrNone)
		}
	}
}

// Nothing else of the rule plays a part.
func TestApplyOfRepadsThatMayNotBe(t *testing.T) {
	for _, r := range []api.Rule{{To: 12}, {From: 129, To: 12}, {From: 2, To: 12, Text: "x"}, {From: 12, To: 12, Pairs: pairs("123456", "y")}} {
		r.Kind = api.RRepad
		checkApply(t, r, right(), "123456", 12, "000000123456")
		checkApplyErr(t, r, right(), "12345x", api.ErrRange)
	}
	r := api.Rule{Kind: api.RRepad, From: 2, To: 2}
	checkApply(t, r, right(), "0004", 2, "4")
	checkApplyErr(t, r, right(), "41", api.ErrRange)
	// Of a number that stands twice the first spec counts.
	r.To = 7
	checkApply(t, r, with(fixed(8, 1), fixed(7, 4), fixed(7, 6), fixed(7, 0)), "12", 7, "0012")
	checkApplyErr(t, r, with(fixed(8, 1), fixed(7, 0), fixed(7, 6)), "12", api.ErrRange)
	for _, no := range append(slices.Clone(noFields), 0) {
		checkApply(t, api.Rule{Kind: api.RRepad, To: no}, with(fixed(7, 1), fixed(no, 4)), "12", no, "0012")
	}
}

func TestApplyOfTables(t *testing.T) {
	for _, n := range []int{1, 2, 100, 256, 300} {
		l := actions(n)
		for _, b := range []api.Schema{right(), {}} {
			for _, p := range l {
				checkApply(t, table(l...), b, p.From, 39, p.To)
			}
			for _, text := range []string{"", "0", "000", "0 ", " 0", "00\x00", "zz", "99", "100", l[n-1].From + "0", l[0].To} {
				checkApplyErr(t, table(l...), b, text, api.ErrTable)
			}
		}
	}
}

func TestApplyOfTablesThatMayNotBe(t *testing.T) {
	for _, none := range [][]api.Pair{nil, {}, make([]api.Pair, 0, 3)} {
		for _, text := range anyTexts() {
			checkApplyErr(t, table(none...), right(), text, api.ErrTable)
		}
	}
	// The first such pair is taken.
	twice := table(pairs("a", "1", "b", "2", "a", "3", "b", "4", "", "5", "", "6")...)
	checkApply(t, twice, right(), "a", 39, "1")
	checkApply(t, twice, right(), "b", 39, "2")
	checkApply(t, twice, right(), "", 39, "5")
	checkApplyErr(t, twice, right(), "1", api.ErrTable)
	// What it becomes may be the empty text, which is none of no such pair.
	checkApply(t, table(pairs("a", "", "", "")...), right(), "a", 39, "")
	checkApply(t, table(pairs("a", "", "", "")...), right(), "", 39, "")
	checkApply(t, table(pairs("a", "")...), right(), "a", 39, "")
	checkApplyErr(t, table(pairs("a", "")...), right(), "", api.ErrTable)
	for _, text := range anyTexts() {
		for _, no := range append(slices.Clone(noFields), 0, 39, 12) {
			r := api.Rule{Kind: api.RTable, From: 3, To: no, Text: "Text", Pairs: pairs("other", "1", text, "made", text, "late")}
			checkApply(t, r, right(), text, no, "made")
			checkApply(t, r, api.Schema{}, text, no, "made")
			checkApplyErr(t, r, right(), text+"!", api.ErrTable)
		}
	}
}

// P20.3

// values: texts that a field may have, of its least and its greatest length.
func values(s api.Spec) []string {
	pieces := map[int][]string{1: {"0", "9", "120"}, 2: {"a", "Zq"}, 3: {"0", "a9", "Z"}, 4: {" ", "~a", "0"}, 5: {"\x00", "\xff", "a0"}}
	var list []string
	for _, n := range []int{s.Min, s.Min + 1, s.Max - 1, s.Max} {
		if n < s.Min || n > s.Max {
			continue
		}
		for _, piece := range pieces[s.Class] {
			list = append(list, strings.Repeat(piece, n)[:n])
			list = append(list, strings.Repeat(piece[:1], n-1)+piece[len(piece)-1:])
		}
		if s.Class == api.CDigits {
			list = append(list, strings.Repeat("0", n-1)+"7", strings.Repeat("0", n/2)+strings.Repeat("3", n-n/2))
		}
	}
	if s.Class == api.CTlv {
		list = append(list, "\x5a\x00", tagged, "\x5a\x01A"+tagged)
	}
	return list
}

func TestValuesAreValues(t *testing.T) {
	for _, s := range []api.Schema{left(), right(), dialect.Acquirer(), dialect.Issuer()} {
		for _, one := range s.Fields {
			if len(values(one)) < 3 {
				t.Errorf("too few values of %v", one)
			}
			for _, text := range values(one) {
				if err := spec.Value(one, text); err != api.OK {
					t.Errorf("%q is no value of %v: %d", text, one, err)
				}
			}
		}
	}
}

// checkMade: what a rule that may be makes of values that From may have, and how many of them it can't make anything of.
func checkMade(t *testing.T, r api.Rule, a, b api.Schema, more ...string) int {
	t.Helper()
	from, _ := first(a, r.From)
	to, _ := first(b, r.To)
	refused := 0
	for _, text := range append(values(from), more...) {
		if r.Kind != api.RConst && spec.Value(from, text) != api.OK {
			continue
		}
		got, err := Apply(r, b, text)
		switch {
		case err == api.ErrRange && r.Kind == api.RRepad, err == api.ErrTable && r.Kind == api.RTable:
			refused++
		case err != api.OK:
			t.Errorf("Apply(%s), to %v, of %q: %d", told(r), b, text, err)
		case r.Kind == api.RDrop && got != (api.Value{}):
			t.Errorf("Apply(%s), of %q: %#v", told(r), text, got)
		case r.Kind != api.RDrop && (got.No != r.To || spec.Value(to, got.Text) != api.OK):
			t.Errorf("Apply(%s), to %v, of %q: %#v", told(r), b, text, got)
		}
	}
	return refused
}

func TestWhatIsMadeIsAValue(t *testing.T) {
	made, refused := map[int]int{}, map[int]int{}
	eachRule(func(r api.Rule) {
		if Check(r, left(), right()) == api.OK {
			made[r.Kind]++
			refused[r.Kind] += checkMade(t, r, left(), right(), "00", "05", "EUR", "4111111111111111")
		}
	})
	for _, kind := range kinds {
		if made[kind] < 5 {
			t.Errorf("too few of a kind: %d: %d", kind, made[kind])
		}
	}
	if refused[api.RRepad] < 5 || refused[api.RTable] < 5 {
		t.Errorf("too few are refused: %v", refused)
	}
}

func TestWhatIsMadeOfManySpecs(t *testing.T) {
	tables := [][]api.Pair{pairs("7", "123456"), pairs("123456", "7", "654321", "8"), pairs("123456", "123456"), pairs("a", "\x00"), pairs(tagged, "123456")}
	for _, from := range manySpecs(20) {
		for _, to := range manySpecs(30) {
			a, b := with(from), with(to)
			rules := []api.Rule{{Kind: api.RCopy, From: 20, To: 30}, {Kind: api.RRepad, From: 20, To: 30}}
			for _, l := range tables {
				rules = append(rules, api.Rule{Kind: api.RTable, From: 20, To: 30, Pairs: l})
			}
			for _, r := range rules {
				// A repad between specs that may not stand is taken as it is; schemas have none of these.
				if Check(r, a, b) == api.OK && spec.Check(from) == api.OK && spec.Check(to) == api.OK {
					checkMade(t, r, a, b, "7", "123456", "a", tagged)
				}
			}
		}
	}
}

// A table makes something of each From of its pairs, a repad to as many digits or more of each value.
func TestWhatIsAlwaysMade(t *testing.T) {
	for _, p := range actions(256) {
		checkApply(t, table(actions(256)...), right(), p.From, 39, p.To)
	}
	r := api.Rule{Kind: api.RRepad, From: 20, To: 30}
	for from := 1; from <= 30; from++ {
		for to := from; to <= 40; to++ {
			there, back := with(fixed(30, to)), with(fixed(20, from))
			checkCheck(t, r, back, there, api.OK)
			for _, text := range values(fixed(20, from)) {
				longer := strings.Repeat("0", to-from) + text
				checkApply(t, r, there, text, 30, longer)
				checkApply(t, api.Rule{Kind: api.RRepad, From: 30, To: 20}, back, longer, 20, text)
				if to > from {
					checkApplyErr(t, api.Rule{Kind: api.RRepad, From: 30, To: 20}, back, "1"+longer[1:], api.ErrRange)
				}
			}
		}
	}
}

func TestEachFieldMayBeCopiedToItself(t *testing.T) {
	for _, s := range []api.Schema{left(), right(), dialect.Acquirer(), dialect.Issuer()} {
		for _, one := range s.Fields {
			copied := api.Rule{Kind: api.RCopy, From: one.No, To: one.No}
			checkCheck(t, copied, s, s, api.OK)
			padded := api.Rule{Kind: api.RRepad, From: one.No, To: one.No}
			pads := Check(padded, s, s) == api.OK
			if pads != (one.Class == 1 && one.Form == 1) {
				t.Errorf("%v may be padded to itself: %v", one, pads)
			}
			for _, text := range values(one) {
				checkApply(t, copied, s, text, one.No, text)
				checkApply(t, api.Rule{Kind: api.RTable, To: one.No, Pairs: pairs(text, text)}, s, text, one.No, text)
				if pads {
					checkApply(t, padded, s, text, one.No, text)
				}
			}
		}
	}
}

// The rules of the whole

// roomy: the same list, with spare room behind it.
func roomy[T any](list []T, room T) []T {
	return append(slices.Clone(list), room, room, room)[:len(list)]
}

func TestWhatIsHandedInStays(t *testing.T) {
	for _, kind := range append(slices.Clone(noKinds), kinds...) {
		for _, base := range []api.Rule{usual(kind), {Kind: kind, From: 39, To: 39, Text: "x", Pairs: actions(256)}, {Kind: kind, From: 39, To: 12, Pairs: pairs("b", "1", "a", "2", "b", "3")}, table(actions(300)...)} {
			a, b, r := left(), right(), base
			slices.Reverse(b.Fields)
			a.Fields, b.Fields = roomy(a.Fields, fixed(70, 70)), roomy(b.Fields, fixed(70, 70))
			r.Pairs = roomy(base.Pairs, api.Pair{From: "room", To: "room"})
			all := []any{slices.Clone(a.Fields[:len(a.Fields)+3]), slices.Clone(b.Fields[:len(b.Fields)+3]), slices.Clone(r.Pairs[:len(r.Pairs)+3])}
			Check(r, a, b)
			Check(r, b, a)
			Apply(r, b, "123456")
			Apply(r, a, "00")
			Apply(r, b, "b")
			same := slices.Equal(all[0].([]api.Spec), a.Fields[:len(a.Fields)+3]) && slices.Equal(all[1].([]api.Spec), b.Fields[:len(b.Fields)+3]) && slices.Equal(all[2].([]api.Pair), r.Pairs[:len(r.Pairs)+3])
			if !same {
				t.Errorf("%s: a list that was handed in, or its spare room, was changed", told(r))
			}
		}
	}
}

func TestNilAndEmptyListsAreOne(t *testing.T) {
	for _, kind := range append(slices.Clone(noKinds), kinds...) {
		r, filled := usual(kind), usual(kind)
		if kind == api.RTable {
			filled.Pairs = nil
		}
		r.Pairs, filled.Pairs = nil, []api.Pair{}
		for _, x := range []struct{ a, b api.Schema }{{left(), right()}, {with(), right()}, {left(), with()}, {with(), with()}} {
			y := x
			if len(y.a.Fields) == 0 {
				y.a.Fields = []api.Spec{}
			}
			if len(y.b.Fields) == 0 {
				y.b.Fields = make([]api.Spec, 0, 3)
			}
			if one, other := Check(r, x.a, x.b), Check(filled, y.a, y.b); one != other {
				t.Errorf("Check(%s): %d by nil, %d by empty lists", told(r), one, other)
			}
			one, oneErr := Apply(r, x.b, "123456")
			other, otherErr := Apply(filled, y.b, "123456")
			if one != other || oneErr != otherErr {
				t.Errorf("Apply(%s): %#v, %d by nil, %#v, %d by empty lists", told(r), one, oneErr, other, otherErr)
			}
		}
	}
}

// What was told once tells nothing of what comes behind it.
func TestNothingIsKept(t *testing.T) {
	for range 3 {
		for _, kind := range kinds {
			checkBetween(t, usual(kind), api.OK)
			if r, want := spoilt(kind); want != api.OK {
				checkBetween(t, r, want)
			}
		}
		l := pairs("00", "000", "05", "100")
		r := table(l...)
		checkBetween(t, r, api.OK)
		checkApply(t, r, right(), "05", 39, "100")
		l[1] = api.Pair{From: "06", To: "10x"}
		checkBetween(t, r, api.ErrClass)
		checkApplyErr(t, r, right(), "05", api.ErrTable)
		checkApply(t, r, right(), "06", 39, "10x")
		b := right()
		checkApply(t, usual(api.RRepad), b, "000056", 12, "000000000056")
		b.Fields[2] = fixed(12, 2)
		checkApply(t, usual(api.RRepad), b, "000056", 12, "56")
	}
}

func TestLongListsEnd(t *testing.T) {
	a, b := with(make([]api.Spec, 100000)...), with(make([]api.Spec, 100000)...)
	a.Fields, b.Fields = append(a.Fields, left().Fields...), append(b.Fields, right().Fields...)
	for _, kind := range kinds {
		checkCheck(t, usual(kind), a, b, api.OK)
		r := usual(kind)
		r.Pairs = make([]api.Pair, 100000)
		want := api.ErrForm
		if kind == api.RTable {
			want = api.ErrTable
		}
		checkCheck(t, r, a, b, want)
	}
	checkApply(t, usual(api.RRepad), b, "123456", 12, "000000123456")
	checkApply(t, table(append(make([]api.Pair, 100000), pairs("05", "100")...)...), b, "05", 39, "100")
	checkByReader(t, api.Rule{Kind: api.RConst, To: 128, Text: strings.Repeat("x", 1<<20)}, a, b, strings.Repeat("0", 1<<20))
}

func FuzzRules(f *testing.F) {
	f.Add(1, 2, 2, "", "", "4111111111111111", 12, 19)
	f.Add(3, 0, 26, "5999", "", "", 4, 4)
	f.Add(4, 12, 12, "", "", "123456", 6, 12)
	f.Add(5, 39, 39, "", "00 000 05 100", "05", 2, 3)
	f.Fuzz(func(t *testing.T, kind, from, to int, text, words, value string, least, greatest int) {
		w := strings.Split(words, " ")
		if len(w) > 1000 {
			return
		}
		r := api.Rule{Kind: kind, From: from, To: to, Text: text, Pairs: pairs(w[:len(w)/2*2]...)}
		checkByReader(t, r, left(), right(), value)
		for class := range 3 {
			for form := range 3 {
				checkByReader(t, r, with(of(from, class, form, least, greatest)), with(of(to, class, form, greatest, greatest), fixed(to, least)), value)
			}
		}
	})
}
