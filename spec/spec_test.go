package spec

import (
	"math"
	"slices"
	"strings"
	"testing"

	"groat/api"
)

func of(no, class, form, least, greatest int) api.Spec {
	return api.Spec{No: no, Class: class, Form: form, Min: least, Max: greatest}
}

var (
	allClasses = []int{api.CDigits, api.CLetters, api.CAlnum, api.CPrint, api.CBytes, api.CTlv}
	allForms   = []int{api.FFixed, api.FTwo, api.FThree}
	noClasses  = []int{math.MinInt, -7, -1, 0, 7, 8, 1 << 32, 1<<32 + 1, math.MaxInt}
	noForms    = []int{math.MinInt, -3, -1, 0, 4, 5, 1 << 32, 1<<32 + 1, math.MaxInt}
	noFields   = []int{math.MinInt, -128, -2, -1, 0, 1, 129, 130, 256, 1<<32 + 2, math.MaxInt}
	edgesOfLen = []int{math.MinInt, -999, -1, 0, 1, 2, 50, 98, 99, 100, 101, 998, 999, 1000, 1001, math.MaxInt}
)

// signs: each class's bytes, by another way than the program's.
func signs(class int) string {
	const digits, letters = "0123456789", "ABCDEFGHIJKLMNOPQRSTUVWXYZabcdefghijklmnopqrstuvwxyz"
	switch class {
	case api.CDigits:
		return digits
	case api.CLetters:
		return letters
	case api.CAlnum:
		return digits + letters
	case api.CPrint:
		return digits + letters + " !\"#$%&'()*+,-./:;<=>?@[\\]^_`{|}~"
	}
	var all []byte
	for b := range 256 {
		all = append(all, byte(b))
	}
	return string(all)
}

// others: the bytes that aren't of a class.
func others(class int) string {
	var out []byte
	for b := range 256 {
		if strings.IndexByte(signs(class), byte(b)) < 0 {
			out = append(out, byte(b))
		}
	}
	return string(out)
}

// isList: whether bytes are a list's, by another way than the program's.
func isList(b string) bool {
	var ahead []string
	for b != "" {
		size := 1
		if b[0]&31 == 31 {
			size = 2
		}
		if len(b) <= size || b[0] == 0 || b[0]&32 != 0 || size == 2 && (b[1] == 0 || b[1] > 127) || slices.Contains(ahead, b[:size]) {
			return false
		}
		ahead = append(ahead, b[:size])
		n, behind := int(b[size]), b[size+1:]
		if n > 127 {
			if n == 0x81 && behind != "" && behind[0] > 127 {
				n, behind = int(behind[0]), behind[1:]
			} else if n == 0x82 && len(behind) > 1 && behind[0] > 0 {
				n, behind = int(behind[0])<<8|int(behind[1]), behind[2:]
			} else {
				return false
			}
		}
		if n > len(behind) {
			return false
		}
		b = behind[n:]
	}
	return true
}

// wantCheck: what is wrong with a spec, by lists of what may be.
func wantCheck(s api.Spec) api.Errno {
	most := []int{0, 999, 99, 999}
	switch {
	case s.No <= 1 || s.No >= 129:
		return api.ErrArg
	case !slices.Contains(allClasses, s.Class):
		return api.ErrClass
	case !slices.Contains(allForms, s.Form):
		return api.ErrForm
	case s.Min <= 0 || s.Max < s.Min || s.Max > most[s.Form] || s.Form == 1 && s.Min != s.Max:
		return api.ErrRange
	case s.Class == 6 && s.Form == 1:
		return api.ErrTag
	}
	return api.OK
}

// wantWider: the first class's signs hold the second one's; lists are asked for by their own class alone.
func wantWider(a, b int) bool {
	switch {
	case a == 5:
		return true
	case (a == 6) != (b == 6):
		return false
	}
	for _, c := range []byte(signs(b)) {
		if strings.IndexByte(signs(a), c) < 0 {
			return false
		}
	}
	return true
}

func checkCheck(t *testing.T, s api.Spec, want api.Errno) {
	t.Helper()
	if err := Check(s); err != want {
		t.Errorf("Check(%v): %d; want %d", s, err, want)
	}
}

func checkValue(t *testing.T, s api.Spec, text string, want api.Errno) {
	t.Helper()
	if err := Value(s, text); err != want {
		t.Errorf("Value(%v, % X of %d): %d; want %d", s, text[:min(len(text), 40)], len(text), err, want)
	}
}

func checkWider(t *testing.T, a, b api.Spec, want bool) {
	t.Helper()
	if got := Wider(a, b); got != want {
		t.Errorf("Wider(%v, %v): %v; want %v", a, b, got, want)
	}
}

// filled: a text of so many bytes that may be a value of a class; of CTlv from 2 bytes on.
func filled(class, n int) string {
	if class != api.CTlv {
		return strings.Repeat(signs(class), n/len(signs(class))+1)[:n]
	}
	switch {
	case n < 130:
		return "\x82" + string([]byte{byte(n - 2)}) + strings.Repeat("v", n-2)
	case n == 130 || n == 259:
		// No one value takes so many, as its length would take one byte more.
		return filled(class, n-2) + "\x84\x00"
	case n < 259:
		return "\x82\x81" + string([]byte{byte(n - 3)}) + strings.Repeat("v", n-3)
	}
	return "\x82\x82" + string([]byte{byte((n - 4) >> 8), byte(n - 4)}) + strings.Repeat("v", n-4)
}

// P11.1

func TestCheckOfOrdinarySpecs(t *testing.T) {
	checkCheck(t, of(2, api.CDigits, api.FTwo, 1, 19), api.OK)
	checkCheck(t, of(11, api.CDigits, api.FFixed, 6, 6), api.OK)
	checkCheck(t, of(41, api.CPrint, api.FFixed, 8, 8), api.OK)
	checkCheck(t, of(49, api.CLetters, api.FFixed, 3, 3), api.OK)
	checkCheck(t, of(37, api.CAlnum, api.FFixed, 12, 12), api.OK)
	checkCheck(t, of(52, api.CBytes, api.FFixed, 8, 8), api.OK)
	checkCheck(t, of(55, api.CTlv, api.FThree, 1, 255), api.OK)
	for _, class := range allClasses {
		checkCheck(t, of(60, class, api.FTwo, 5, 40), api.OK)
		checkCheck(t, of(60, class, api.FThree, 5, 400), api.OK)
		want := api.OK
		if class == api.CTlv {
			want = api.ErrTag
		}
		checkCheck(t, of(60, class, api.FFixed, 40, 40), want)
	}
}

func TestCheckOfNumbers(t *testing.T) {
	for _, form := range allForms {
		for no := 2; no <= 128; no++ {
			checkCheck(t, of(no, api.CAlnum, form, 9, 9), api.OK)
		}
		for _, no := range noFields {
			checkCheck(t, of(no, api.CAlnum, form, 9, 9), api.ErrArg)
		}
	}
}

func TestCheckOfClassesAndForms(t *testing.T) {
	for _, class := range noClasses {
		for _, form := range allForms {
			checkCheck(t, of(2, class, form, 9, 9), api.ErrClass)
		}
	}
	for _, form := range noForms {
		for _, class := range allClasses {
			checkCheck(t, of(2, class, form, 9, 9), api.ErrForm)
		}
	}
}

func TestCheckOfLengths(t *testing.T) {
	for _, x := range []struct {
		form, least, greatest int
		want                  api.Errno
	}{
		{api.FFixed, 1, 1, api.OK}, {api.FFixed, 99, 99, api.OK}, {api.FFixed, 100, 100, api.OK}, {api.FFixed, 999, 999, api.OK},
		{api.FFixed, 0, 0, api.ErrRange}, {api.FFixed, -1, -1, api.ErrRange}, {api.FFixed, 1000, 1000, api.ErrRange},
		{api.FFixed, 0, 9, api.ErrRange}, {api.FFixed, 1, 9, api.ErrRange}, {api.FFixed, 8, 9, api.ErrRange}, {api.FFixed, 10, 9, api.ErrRange},
		{api.FTwo, 1, 1, api.OK}, {api.FTwo, 1, 98, api.OK}, {api.FTwo, 1, 99, api.OK}, {api.FTwo, 99, 99, api.OK},
		{api.FTwo, 1, 100, api.ErrRange}, {api.FTwo, 100, 100, api.ErrRange}, {api.FTwo, 1, 999, api.ErrRange}, {api.FTwo, 1, 1000, api.ErrRange},
		{api.FTwo, 0, 99, api.ErrRange}, {api.FTwo, -1, 99, api.ErrRange}, {api.FTwo, 0, 0, api.ErrRange}, {api.FTwo, 20, 19, api.ErrRange}, {api.FTwo, 100, 99, api.ErrRange},
		{api.FThree, 1, 1, api.OK}, {api.FThree, 1, 99, api.OK}, {api.FThree, 1, 100, api.OK}, {api.FThree, 1, 998, api.OK}, {api.FThree, 1, 999, api.OK}, {api.FThree, 999, 999, api.OK},
		{api.FThree, 1, 1000, api.ErrRange}, {api.FThree, 1000, 1000, api.ErrRange}, {api.FThree, 1000, 999, api.ErrRange},
		{api.FThree, 0, 999, api.ErrRange}, {api.FThree, -1, 999, api.ErrRange}, {api.FThree, 0, 0, api.ErrRange}, {api.FThree, 101, 100, api.ErrRange},
		{api.FThree, math.MinInt, math.MaxInt, api.ErrRange}, {api.FThree, math.MaxInt, math.MinInt, api.ErrRange},
	} {
		checkCheck(t, of(3, api.CDigits, x.form, x.least, x.greatest), x.want)
		checkCheck(t, of(3, api.CBytes, x.form, x.least, x.greatest), x.want)
	}
}

func TestCheckOfTagged(t *testing.T) {
	for _, n := range []int{1, 2, 99, 100, 999} {
		checkCheck(t, of(55, api.CTlv, api.FFixed, n, n), api.ErrTag)
		checkCheck(t, of(55, api.CTlv, api.FThree, n, n), api.OK)
	}
	checkCheck(t, of(55, api.CTlv, api.FTwo, 1, 99), api.OK)
	checkCheck(t, of(55, api.CTlv, api.FTwo, 1, 100), api.ErrRange)
	checkCheck(t, of(55, api.CTlv, api.FThree, 1, 999), api.OK)
	for _, class := range allClasses[:5] {
		checkCheck(t, of(55, class, api.FFixed, 9, 9), api.OK)
	}
}

func TestCheckTellsTheFirstFault(t *testing.T) {
	checkCheck(t, api.Spec{}, api.ErrArg)
	checkCheck(t, of(1, 7, 4, 5, 4), api.ErrArg)
	checkCheck(t, of(129, 6, 1, 5, 4), api.ErrArg)
	checkCheck(t, of(2, 7, 4, 5, 4), api.ErrClass)
	checkCheck(t, of(128, 0, 1, 5, 4), api.ErrClass)
	checkCheck(t, of(2, 6, 4, 5, 4), api.ErrForm)
	checkCheck(t, of(2, 6, 0, 0, 1000), api.ErrForm)
	checkCheck(t, of(2, 6, 1, 5, 4), api.ErrRange)
	checkCheck(t, of(2, 6, 1, 4, 5), api.ErrRange)
	checkCheck(t, of(2, 6, 1, 1000, 1000), api.ErrRange)
	checkCheck(t, of(2, 6, 1, 4, 4), api.ErrTag)
}

func TestCheckAgainstLists(t *testing.T) {
	for _, no := range append([]int{2, 3, 64, 127, 128}, noFields...) {
		for _, class := range slices.Concat(allClasses, noClasses) {
			for _, form := range slices.Concat(allForms, noForms) {
				for _, least := range edgesOfLen {
					for _, greatest := range edgesOfLen {
						s := of(no, class, form, least, greatest)
						checkCheck(t, s, wantCheck(s))
					}
				}
			}
		}
	}
}

// P11.2

func TestValueOfTheChaptersExamples(t *testing.T) {
	pan := of(2, api.CDigits, api.FTwo, 1, 19)
	checkValue(t, pan, "4111111111111111", api.OK)
	checkValue(t, pan, "411a", api.ErrClass)
	checkValue(t, pan, "", api.ErrRange)
}

func TestValueOfLengths(t *testing.T) {
	for _, class := range allClasses {
		for _, s := range []api.Spec{of(2, class, api.FTwo, 3, 19), of(2, class, api.FTwo, 3, 99), of(128, class, api.FThree, 99, 100), of(3, class, api.FThree, 9, 999), of(3, class, api.FThree, 7, 7), of(3, class, api.FFixed, 6, 6), of(3, class, api.FFixed, 999, 999)} {
			if class == api.CTlv && s.Form == api.FFixed {
				continue
			}
			for _, n := range []int{s.Min, s.Min + 1, s.Max - 1, s.Max} {
				if n >= s.Min && n <= s.Max {
					checkValue(t, s, filled(class, n), api.OK)
				}
			}
			for _, n := range []int{s.Min - 1, s.Max + 1, s.Max + 256, 65536} {
				checkValue(t, s, filled(class, n), api.ErrRange)
			}
			checkValue(t, s, "", api.ErrRange)
		}
	}
}

func TestValueOfEachLengthUpToTheGreatest(t *testing.T) {
	for _, class := range allClasses {
		for n := 2; n <= 999; n++ {
			checkValue(t, of(4, class, api.FThree, 1, 999), filled(class, n), api.OK)
		}
	}
}

func TestValueOfBytes(t *testing.T) {
	for _, class := range allClasses[:5] {
		s := of(2, class, api.FTwo, 1, 9)
		good := strings.Repeat(signs(class)[:1], 4)
		for _, b := range []byte(signs(class)) {
			for at := range 5 {
				checkValue(t, s, good[:at]+string([]byte{b})+good[at:], api.OK)
			}
			checkValue(t, s, string([]byte{b}), api.OK)
		}
		for _, b := range []byte(others(class)) {
			for at := range 5 {
				checkValue(t, s, good[:at]+string([]byte{b})+good[at:], api.ErrClass)
			}
			checkValue(t, s, string([]byte{b}), api.ErrClass)
			checkValue(t, of(2, class, api.FFixed, 5, 5), good+string([]byte{b}), api.ErrClass)
		}
	}
	checkValue(t, of(2, api.CAlnum, api.FTwo, 1, 9), "né", api.ErrClass)
	checkValue(t, of(2, api.CPrint, api.FTwo, 1, 9), "é", api.ErrClass)
	checkValue(t, of(2, api.CBytes, api.FTwo, 1, 9), "né\xff\x00", api.OK)
}

func TestValueOfLists(t *testing.T) {
	two, three := of(55, api.CTlv, api.FTwo, 1, 99), of(55, api.CTlv, api.FThree, 1, 300)
	long := strings.Repeat("v", 128)
	for _, text := range []string{"\x82\x00", "\x82\x01a", "\x9f\x02\x02\x01\x00\x5a\x00", "\x5a\x00\x82\x00\x9f\x02\x00"} {
		checkValue(t, two, text, api.OK)
		checkValue(t, three, text, api.OK)
	}
	checkValue(t, three, "\x82\x81\x80"+long, api.OK)
	checkValue(t, three, "\x82\x82\x01\x00"+long+long, api.OK)
	for _, text := range []string{
		"\x00", "\x00\x01a", "\x70\x01a", "\x9f", "\x9f\x00\x01a", "\x9f\x81\x01\x01a", // tags that are none, or cut
		"\x82", "\x9f\x02", "\x82\x81", "\x82\x82", "\x82\x82\x01", // a length that isn't all there
		"\x82\x80", "\x82\x81\x01a", "\x82\x82\x00\x80" + long, "\x82\x83\x00\x01\x00" + long + long, "\x82\xff", // lengths that are none
		"\x82\x01", "\x82\x02a", "\x82\x81\x80" + long[1:], // a value that isn't all there
		"\x5a\x01\x41\x5a\x00", "\x82\x00\x82\x00", "\x9f\x02\x00\x82\x00\x9f\x02\x00", // a tag twice
		"\x82\x01a\x00", "\x82\x01a ", "\x5a\x00\x82\x02a", "4111", "a", // right ones, and what is none behind
	} {
		checkValue(t, three, text, api.ErrTag)
		checkValue(t, of(55, api.CBytes, api.FThree, 1, 300), text, api.OK)
	}
}

func TestValueOfListsAgainstAnotherReader(t *testing.T) {
	s := of(55, api.CTlv, api.FTwo, 1, 4)
	bytes := []byte{0x00, 0x01, 0x02, 0x1f, 0x20, 0x5a, 0x7f, 0x80, 0x81, 0x82, 0x9f, 0xff}
	rights := 0
	var each func(text string)
	each = func(text string) {
		if text != "" {
			want := api.OK
			if !isList(text) {
				want = api.ErrTag
			} else {
				rights++
			}
			checkValue(t, s, text, want)
		}
		if len(text) < 4 {
			for _, b := range bytes {
				each(text + string([]byte{b}))
			}
		}
	}
	each("")
	if rights < 100 {
		t.Errorf("%d lists", rights)
	}
}

func TestValueTellsTheFirstFault(t *testing.T) {
	digits, list := of(2, api.CDigits, api.FTwo, 3, 5), of(55, api.CTlv, api.FTwo, 3, 5)
	checkValue(t, digits, "1a", api.ErrRange)
	checkValue(t, digits, "12345a", api.ErrRange)
	checkValue(t, digits, "aaaaaa", api.ErrRange)
	checkValue(t, digits, "1a3b", api.ErrClass)
	checkValue(t, list, "\x00", api.ErrRange)
	checkValue(t, list, "\x82\x01", api.ErrRange)
	checkValue(t, list, "\x00\x00\x00\x00\x00\x00", api.ErrRange)
	checkValue(t, list, "\x82\x00", api.ErrRange)
	checkValue(t, list, "\x00\x00\x00", api.ErrTag)
}

func TestValueOfSpecsThatMayNotStand(t *testing.T) {
	wrong := []api.Spec{
		{}, of(1, 1, 2, 1, 9), of(129, 1, 2, 1, 9), of(2, 0, 2, 1, 9), of(2, 7, 2, 1, 9), of(2, 1, 0, 1, 9), of(2, 1, 4, 1, 9),
		of(2, 1, 2, 0, 9), of(2, 1, 2, 1, 100), of(2, 1, 1, 1, 9), of(2, 1, 3, 1, 1000), of(2, 1, 3, 9, 1), of(55, 6, 1, 3, 3),
		of(2, 1, 3, math.MinInt, math.MaxInt), of(math.MinInt, math.MinInt, math.MinInt, math.MinInt, math.MinInt),
	}
	for _, s := range wrong {
		for _, text := range []string{"", "1", "123", "a", "\x82\x01a", "\x00", strings.Repeat("1", 1001)} {
			checkValue(t, s, text, api.ErrArg)
		}
	}
}

// P11.3

func TestWiderOfClasses(t *testing.T) {
	for _, a := range allClasses {
		for _, b := range allClasses {
			for _, form := range []int{api.FTwo, api.FThree} {
				checkWider(t, of(2, a, form, 1, 19), of(99, b, api.FTwo, 1, 19), wantWider(a, b))
				checkWider(t, of(2, a, form, 1, 19), of(2, b, form, 2, 18), wantWider(a, b))
			}
		}
	}
	for _, x := range []struct {
		a, b int
		want bool
	}{
		{api.CBytes, api.CTlv, true}, {api.CTlv, api.CBytes, false}, {api.CTlv, api.CTlv, true}, {api.CBytes, api.CBytes, true},
		{api.CTlv, api.CDigits, false}, {api.CTlv, api.CPrint, false}, {api.CDigits, api.CTlv, false}, {api.CPrint, api.CTlv, false},
		{api.CAlnum, api.CDigits, true}, {api.CDigits, api.CAlnum, false}, {api.CDigits, api.CLetters, false}, {api.CLetters, api.CDigits, false},
		{api.CPrint, api.CAlnum, true}, {api.CBytes, api.CPrint, true}, {api.CPrint, api.CBytes, false},
	} {
		checkWider(t, of(2, x.a, api.FTwo, 1, 19), of(2, x.b, api.FTwo, 1, 19), x.want)
	}
}

func TestWiderOfLengths(t *testing.T) {
	for _, classes := range [][2]int{{api.CDigits, api.CDigits}, {api.CBytes, api.CTlv}, {api.CTlv, api.CTlv}, {api.CAlnum, api.CLetters}} {
		a := of(2, classes[0], api.FThree, 10, 50)
		for _, x := range []struct {
			least, greatest int
			want            bool
		}{
			{10, 50, true}, {11, 49, true}, {11, 50, true}, {10, 49, true}, {10, 10, true}, {50, 50, true}, {30, 30, true},
			{9, 50, false}, {10, 51, false}, {9, 51, false}, {9, 49, false}, {11, 51, false}, {1, 99, false}, {1, 9, false}, {51, 60, false}, {9, 9, false}, {51, 51, false},
		} {
			checkWider(t, a, of(3, classes[1], api.FTwo, x.least, x.greatest), x.want)
			checkWider(t, a, of(2, classes[1], api.FThree, x.least, x.greatest), x.want)
		}
	}
}

func TestWiderOfForms(t *testing.T) {
	for _, form := range allForms {
		checkWider(t, of(2, api.CPrint, api.FThree, 1, 999), of(3, api.CDigits, form, 9, 9), true)
		checkWider(t, of(2, api.CPrint, form, 9, 9), of(3, api.CDigits, api.FTwo, 9, 9), true)
		checkWider(t, of(2, api.CPrint, form, 9, 9), of(3, api.CDigits, api.FTwo, 9, 10), false)
	}
	checkWider(t, of(2, api.CPrint, api.FFixed, 9, 9), of(3, api.CDigits, api.FFixed, 8, 8), false)
	checkWider(t, of(2, api.CPrint, api.FFixed, 9, 9), of(3, api.CDigits, api.FFixed, 10, 10), false)
}

func TestWiderOfSpecsThatMayNotStand(t *testing.T) {
	right := of(2, api.CBytes, api.FThree, 1, 999)
	checkWider(t, right, right, true)
	for _, wrong := range []api.Spec{
		{}, of(1, 5, 3, 1, 999), of(129, 5, 3, 1, 999), of(-2, 5, 3, 1, 999), of(2, 0, 3, 1, 999), of(2, 7, 3, 1, 999), of(2, -1, 3, 1, 999),
		of(2, 5, 0, 1, 999), of(2, 5, 4, 1, 999), of(2, 5, 3, 0, 999), of(2, 5, 3, 1, 1000), of(2, 5, 3, 9, 8), of(2, 5, 2, 1, 100), of(2, 5, 1, 1, 999), of(2, 6, 1, 9, 9),
		of(2, 5, 3, math.MinInt, math.MaxInt),
	} {
		checkWider(t, right, wrong, false)
		checkWider(t, wrong, right, false)
		checkWider(t, wrong, wrong, false)
		small := of(2, api.CDigits, api.FFixed, 9, 9)
		checkWider(t, wrong, small, false)
		checkWider(t, small, wrong, false)
	}
}

// manySpecs: all specs by few numbers: right ones and such as may not stand.
func manySpecs() []api.Spec {
	var all []api.Spec
	for class := range 8 {
		for form := range 5 {
			for _, least := range []int{0, 1, 3, 4} {
				for _, greatest := range []int{1, 3, 4, 5, 100, 1000} {
					all = append(all, of(2, class, form, least, greatest))
				}
			}
		}
	}
	return append(all, of(1, 5, 3, 1, 5), of(129, 5, 3, 1, 5))
}

func TestWiderAgainstLists(t *testing.T) {
	for _, a := range manySpecs() {
		for _, b := range manySpecs() {
			want := wantCheck(a) == api.OK && wantCheck(b) == api.OK && a.Min <= b.Min && b.Max <= a.Max && wantWider(a.Class, b.Class)
			checkWider(t, a, b, want)
		}
	}
}

func TestWhatIsAValueIsAValueOfTheWider(t *testing.T) {
	texts := []string{"", "1", "a", " ", "\x00", "\x82\x00", "\x82\x01a", "\x82\x02ab", "\x82\x03abc", "\x82\x00\x5a\x00", "\x82\x00\x82\x00", "\x82\x02a", "12", "123", "1234", "12345", "abc", "abcd", "a1b", "a1b2", "a 1", "a-1+", "a\xff1", "\xff\xff\xff\xff", strings.Repeat("7", 99), strings.Repeat("a", 100), strings.Repeat(" ", 101)}
	values := 0
	for _, a := range manySpecs() {
		for _, b := range manySpecs() {
			if !Wider(a, b) {
				continue
			}
			for _, text := range texts {
				if Value(b, text) == api.OK {
					values++
					checkValue(t, a, text, api.OK)
				}
			}
		}
	}
	if values < 1000 {
		t.Errorf("%d values", values)
	}
}

func TestWhatIsNotWiderLacksAText(t *testing.T) {
	// Where a class isn't wider, lists aside, there is a text of the one that isn't the other one's.
	for _, a := range allClasses {
		for _, b := range allClasses {
			sa, sb := of(2, a, api.FTwo, 1, 99), of(2, b, api.FTwo, 1, 99)
			if Wider(sa, sb) {
				continue
			}
			found := false
			for _, c := range []byte(signs(b)) {
				for _, text := range []string{string([]byte{c}), "\x82\x01" + string([]byte{c})} {
					found = found || Value(sb, text) == api.OK && Value(sa, text) != api.OK
				}
			}
			if !found {
				t.Errorf("%d isn't wider than %d, but no text tells why", a, b)
			}
		}
	}
}

func TestNothingIsKept(t *testing.T) {
	pan, emv := of(2, api.CDigits, api.FTwo, 1, 19), of(55, api.CTlv, api.FThree, 1, 255)
	for range 3 {
		checkValue(t, emv, "\x82\x01a", api.OK)
		checkValue(t, pan, "411a", api.ErrClass)
		checkCheck(t, of(1, 1, 1, 1, 1), api.ErrArg)
		checkValue(t, pan, "4111", api.OK)
		checkValue(t, emv, "\x82\x02a", api.ErrTag)
		checkWider(t, pan, emv, false)
		checkWider(t, pan, pan, true)
	}
}
