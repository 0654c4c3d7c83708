package wire

import (
	"fmt"
	"math"
	"slices"
	"strings"
	"testing"

	"groat/api"
	"groat/dialect"
	"groat/msg"
)

// tagged is a list's bytes by layer 10: 9F 02 of two bytes.
const tagged = "\x9f\x02\x02\x01\x00"

var styles = []int{api.SAscii, api.SBinary}

// noStyles: numbers that are none of both styles.
var noStyles = []int{math.MinInt, -2, -1, 0, 3, 4, 1 << 8, 1<<8 + 1, 1<<32 + 1, 1<<32 + 2, math.MaxInt}

// noMtis: texts that are no MTIs.
var noMtis = []string{"", "0", "08", "080", "08000", "080000", "08a0", "a800", "0a00", "080a", "08/0", "08:0", " 800", "0800 ", "0800\n", "\x000800", "-800", "+800", "0x00", "08\x000", "\x08\x00", "\xb0800", "\u06600", "0\u06600", "\uff100"}

// wrongTexts: of fields of mixed texts that may not be their values, and by which of layer 11's errors.
var wrongTexts = []struct {
	no   int
	text string
	want api.Errno
}{
	{2, "", api.ErrRange}, {2, strings.Repeat("4", 20), api.ErrRange}, {2, "4a", api.ErrClass}, {2, "\x41\x11", api.ErrClass},
	{11, "12345", api.ErrRange}, {11, "1234567", api.ErrRange}, {11, "12345x", api.ErrClass},
	{37, "12345678901", api.ErrRange}, {37, "12345678901 ", api.ErrClass},
	{48, "", api.ErrRange}, {48, strings.Repeat("x", 1000), api.ErrRange}, {48, "a\nb", api.ErrClass},
	{49, "EURO", api.ErrRange}, {49, "97x", api.ErrClass},
	{52, "1234567", api.ErrRange},
	{55, "", api.ErrRange}, {55, strings.Repeat("\x70", 256), api.ErrRange}, {55, "\x5a", api.ErrTag}, {55, "\x5a\x02\x41", api.ErrTag}, {55, "\x70\x00", api.ErrTag}, {55, "\x5a\x00\x5a\x00", api.ErrTag},
	{64, "", api.ErrRange}, {65, "", api.ErrRange}, {65, "6-5", api.ErrClass},
	{70, "30", api.ErrRange}, {70, "30x", api.ErrClass},
	{102, "", api.ErrRange}, {102, "a\xff", api.ErrClass},
	{128, "123456789", api.ErrRange},
}

// mixed: a schema of each class and each form, on both sides of 64.
func mixed(style, version int) api.Schema {
	return api.Schema{Style: style, Version: version, Fields: []api.Spec{
		{No: 2, Class: api.CDigits, Form: api.FTwo, Min: 1, Max: 19},
		{No: 11, Class: api.CDigits, Form: api.FFixed, Min: 6, Max: 6},
		{No: 37, Class: api.CAlnum, Form: api.FFixed, Min: 12, Max: 12},
		{No: 48, Class: api.CPrint, Form: api.FThree, Min: 1, Max: 999},
		{No: 49, Class: api.CLetters, Form: api.FFixed, Min: 3, Max: 3},
		{No: 52, Class: api.CBytes, Form: api.FFixed, Min: 8, Max: 8},
		{No: 55, Class: api.CTlv, Form: api.FThree, Min: 1, Max: 255},
		{No: 64, Class: api.CBytes, Form: api.FTwo, Min: 1, Max: 99},
		{No: 65, Class: api.CDigits, Form: api.FThree, Min: 1, Max: 999},
		{No: 70, Class: api.CDigits, Form: api.FFixed, Min: 3, Max: 3},
		{No: 102, Class: api.CPrint, Form: api.FTwo, Min: 1, Max: 28},
		{No: 128, Class: api.CBytes, Form: api.FFixed, Min: 8, Max: 8},
	}}
}

// full: all fields of mixed, with values that may be.
func full() []api.Value {
	return []api.Value{
		{No: 2, Text: "411111111111111"}, {No: 11, Text: "000001"}, {No: 37, Text: "ABCdef123456"}, {No: 48, Text: "a text, 1"},
		{No: 49, Text: "EUR"}, {No: 52, Text: "\x00\xff\n\x80abc\x01"}, {No: 55, Text: tagged}, {No: 64, Text: "\x64\xaf"},
		{No: 65, Text: "6500"}, {No: 70, Text: "301"}, {No: 102, Text: "DE 102"}, {No: 128, Text: "12345678"},
	}
}

// texts: for each of the fields of full its bytes, by hand.
func texts(style int) []string {
	if style == api.SAscii {
		return []string{
			"15411111111111111", "000001", "ABCdef123456", "009a text, 1",
			"EUR", "00FF0A8061626301", "0059F02020100", "0264AF",
			"0046500", "301", "06DE 102", "3132333435363738",
		}
	}
	return []string{
		"\x15\x04\x11\x11\x11\x11\x11\x11\x11", "\x00\x00\x01", "ABCdef123456", "\x00\x09a text, 1",
		"EUR", "\x00\xff\n\x80abc\x01", "\x00\x05" + tagged, "\x02\x64\xaf",
		"\x00\x04\x65\x00", "\x03\x01", "\x06DE 102", "12345678",
	}
}

// wide: a schema with all fields; each may have one byte to 999.
func wide(style int) api.Schema {
	s := api.Schema{Style: style}
	for no := 2; no <= api.MaxField; no++ {
		s.Fields = append(s.Fields, api.Spec{No: no, Class: api.CBytes, Form: api.FThree, Min: 1, Max: 999})
	}
	return s
}

// with: a message of version 0 with these fields.
func with(list ...api.Value) api.Message { return api.Message{Mti: "0800", Fields: list} }

// some: a message with those of full's fields whose bits are set.
func some(bits int) api.Message {
	m := with()
	for at, one := range full() {
		if bits>>at&1 == 1 {
			m.Fields = append(m.Fields, one)
		}
	}
	return m
}

// wantKind: an MTI's bytes, by another way than the program's.
func wantKind(style int, m string) string {
	if style == api.SAscii {
		return m
	}
	return string([]byte{(m[0]-'0')*16 + m[1] - '0', (m[2]-'0')*16 + m[3] - '0'})
}

// wantMap: the bitmap of rising numbers, bit by bit.
func wantMap(style int, nos ...int) string {
	halves := make([]byte, 8, 16)
	if len(nos) > 0 && nos[len(nos)-1] > 64 {
		halves = halves[:16]
		nos = append([]int{1}, nos...)
	}
	for _, no := range nos {
		halves[(no-1)/8] |= 128 >> ((no - 1) % 8)
	}
	if style == api.SAscii {
		return fmt.Sprintf("%X", halves)
	}
	return string(halves)
}

// wantSome: the bytes of some(bits), part by part.
func wantSome(style, bits int) string {
	var nos []int
	behind := ""
	for at, one := range full() {
		if bits>>at&1 == 1 {
			nos = append(nos, one.No)
			behind += texts(style)[at]
		}
	}
	return wantKind(style, "0800") + wantMap(style, nos...) + behind
}

func checkType(t *testing.T, style int, m, want string, ok bool) {
	t.Helper()
	if got, right := Type(style, m); got != want || right != ok {
		t.Errorf("Type(%d, %q): %q, %v; want %q, %v", style, m, got, right, want, ok)
	}
}

func checkEncode(t *testing.T, s api.Schema, m api.Message, parts ...string) {
	t.Helper()
	want := strings.Join(parts, "")
	if got, fault := Encode(s, m); got != want || fault != (api.Fault{}) {
		t.Errorf("Encode(%v, %#v): %q, %v; want %q", s, m, got, fault, want)
	}
}

func checkFault(t *testing.T, s api.Schema, m api.Message, err api.Errno, field int) {
	t.Helper()
	got, fault := Encode(s, m)
	if want := (api.Fault{Err: err, Field: field}); got != "" || fault != want {
		t.Errorf("Encode(%v, %#v): %q, %v; want %v", s, m, got, fault, want)
	}
	if checked := msg.Check(s, m); fault != checked {
		t.Errorf("Encode(%v, %#v): %v; msg.Check: %v", s, m, fault, checked)
	}
}

// encode: the bytes of what is valid.
func encode(t *testing.T, s api.Schema, m api.Message) string {
	t.Helper()
	got, fault := Encode(s, m)
	if fault != (api.Fault{}) || got == "" {
		t.Fatalf("Encode(%v, %#v): %q, %v", s, m, got, fault)
	}
	return got
}

// P17.1: Type

func TestTypeOfMtis(t *testing.T) {
	checkType(t, api.SAscii, "0800", "0800", true)
	checkType(t, api.SBinary, "0800", "\x08\x00", true)
	checkType(t, api.SBinary, "1804", "\x18\x04", true)
	checkType(t, api.SBinary, "0000", "\x00\x00", true)
	checkType(t, api.SBinary, "9999", "\x99\x99", true)
	for n := range 10000 {
		m := fmt.Sprintf("%04d", n)
		for _, style := range styles {
			checkType(t, style, m, wantKind(style, m), true)
		}
	}
}

func TestTypeOfWhatIsNoMti(t *testing.T) {
	for _, m := range noMtis {
		for _, style := range append(noStyles, styles...) {
			checkType(t, style, m, "", false)
		}
	}
	// Each byte that is no digit, in each place.
	for c := range 256 {
		for at := range 4 {
			m := []byte("1234")
			m[at] = byte(c)
			digit := c >= '0' && c <= '9'
			for _, style := range styles {
				want := ""
				if digit {
					want = wantKind(style, string(m))
				}
				checkType(t, style, string(m), want, digit)
			}
		}
	}
}

func TestTypeOfWhatIsNoStyle(t *testing.T) {
	for _, style := range noStyles {
		for _, m := range []string{"0000", "0100", "0800", "1804", "9999"} {
			checkType(t, style, m, "", false)
		}
	}
}

// P17.1: Encode

func TestEncodeOfTheChaptersExample(t *testing.T) {
	m := with(api.Value{No: 11, Text: "123456"}, api.Value{No: 70, Text: "301"})
	checkEncode(t, dialect.Acquirer(), m, "0800", "8020000000000000", "0400000000000000", "123456", "301")
	checkEncode(t, mixed(api.SAscii, 0), m, "0800", "8020000000000000", "0400000000000000", "123456", "301")
	checkEncode(t, mixed(api.SBinary, 0), m, "\x08\x00", "\x80\x20\x00\x00\x00\x00\x00\x00", "\x04\x00\x00\x00\x00\x00\x00\x00", "\x12\x34\x56", "\x03\x01")
}

func TestEncodeOfTheWholesExamples(t *testing.T) {
	one := api.Value{No: 11, Text: "000001"}
	checkEncode(t, dialect.Acquirer(), with(one), "0800", "0020000000000000", "000001")
	checkEncode(t, dialect.Issuer(), api.Message{Mti: "1804", Fields: []api.Value{one}}, "\x18\x04", "\x00\x20\x00\x00\x00\x00\x00\x00", "\x00\x00\x01")
	checkEncode(t, dialect.Acquirer(), with(one, api.Value{No: 70, Text: "301"}), "0800", "8020000000000000", "0400000000000000", "000001", "301")
	card := api.Value{No: 55, Text: "\x82\x01\x61"}
	checkEncode(t, dialect.Acquirer(), with(card), "0800", "0000000000000200", "003", "820161")
	checkEncode(t, dialect.Issuer(), api.Message{Mti: "1804", Fields: []api.Value{card}}, "\x18\x04", "\x00\x00\x00\x00\x00\x00\x02\x00", "\x00\x03\x82\x01\x61")
	checkEncode(t, dialect.Issuer(), api.Message{Mti: "1804", Fields: []api.Value{one, {No: 26, Text: "5999"}}}, "\x18\x04", "\x00\x20\x00\x40\x00\x00\x00\x00", "\x00\x00\x01", "\x59\x99")
}

func TestEncodeOfNoField(t *testing.T) {
	for _, s := range []api.Schema{mixed(api.SAscii, 0), dialect.Acquirer(), {Style: api.SAscii}} {
		checkEncode(t, s, with(), "0800", "0000000000000000")
	}
	for _, s := range []api.Schema{mixed(api.SBinary, 0), wide(api.SBinary), {Style: api.SBinary}} {
		checkEncode(t, s, with(), "\x08\x00", "\x00\x00\x00\x00\x00\x00\x00\x00")
	}
	for version := range 10 {
		for _, style := range styles {
			m := fmt.Sprintf("%d421", version)
			checkEncode(t, mixed(style, version), api.Message{Mti: m}, wantKind(style, m), wantMap(style))
		}
	}
}

func TestEncodeOfEachField(t *testing.T) {
	for _, style := range styles {
		for at, one := range full() {
			checkEncode(t, mixed(style, 0), with(one), wantKind(style, "0800"), wantMap(style, one.No), texts(style)[at])
		}
		for no := 2; no <= api.MaxField; no++ {
			checkEncode(t, wide(style), with(api.Value{No: no, Text: "N"}), wantKind(style, "0800"), wantMap(style, no), []string{"0014E", "\x00\x01N"}[style-1])
		}
	}
	checkEncode(t, mixed(api.SAscii, 0), with(full()[7]), "0800", "0000000000000001", "0264AF")
	checkEncode(t, mixed(api.SAscii, 0), with(full()[8]), "0800", "8000000000000000", "8000000000000000", "0046500")
	checkEncode(t, mixed(api.SBinary, 0), with(full()[11]), "\x08\x00", "\x80\x00\x00\x00\x00\x00\x00\x00", "\x00\x00\x00\x00\x00\x00\x00\x01", "12345678")
}

func TestEncodeOfTheLeastAndTheGreatestValues(t *testing.T) {
	for _, x := range []struct {
		no            int
		text          string
		ascii, binary string
	}{
		{2, "4", "014", "\x01\x04"},
		{2, "42", "0242", "\x02\x42"},
		{2, "421", "03421", "\x03\x04\x21"},
		{2, strings.Repeat("9", 19), "19" + strings.Repeat("9", 19), "\x19\x09" + strings.Repeat("\x99", 9)},
		{48, " ", "001 ", "\x00\x01 "},
		{48, strings.Repeat("~", 999), "999" + strings.Repeat("~", 999), "\x09\x99" + strings.Repeat("~", 999)},
		{55, "\x5a\x00", "0025A00", "\x00\x02\x5a\x00"},
		{55, "\x5a\x81\xfc" + strings.Repeat("\xfe", 252), "2555A81FC" + strings.Repeat("FE", 252), "\x02\x55\x5a\x81\xfc" + strings.Repeat("\xfe", 252)},
		{64, "\x0f", "010F", "\x01\x0f"},
		{64, strings.Repeat("\x9a", 99), "99" + strings.Repeat("9A", 99), "\x99" + strings.Repeat("\x9a", 99)},
		{65, "00", "00200", "\x00\x02\x00"},
		{65, "0", "0010", "\x00\x01\x00"},
		{65, strings.Repeat("8", 999), "999" + strings.Repeat("8", 999), "\x09\x99\x08" + strings.Repeat("\x88", 499)},
	} {
		m := with(api.Value{No: x.no, Text: x.text})
		checkEncode(t, mixed(api.SAscii, 0), m, "0800", wantMap(api.SAscii, x.no), x.ascii)
		checkEncode(t, mixed(api.SBinary, 0), m, "\x08\x00", wantMap(api.SBinary, x.no), x.binary)
	}
}

func TestEncodeOfAllChoicesOfFields(t *testing.T) {
	for _, style := range styles {
		s := mixed(style, 0)
		for bits := range 1 << len(full()) {
			checkEncode(t, s, some(bits), wantSome(style, bits))
		}
	}
}

func TestEncodeOfAllFields(t *testing.T) {
	for _, style := range styles {
		checkEncode(t, mixed(style, 0), with(full()...), append([]string{wantKind(style, "0800"), wantMap(style, 2, 11, 37, 48, 49, 52, 55, 64, 65, 70, 102, 128)}, texts(style)...)...)
		m, nos, behind := with(), []int{}, ""
		for no := 2; no <= api.MaxField; no++ {
			text := strings.Repeat(string([]byte{byte(no + 100)}), 7*no)
			m.Fields = append(m.Fields, api.Value{No: no, Text: text})
			nos = append(nos, no)
			if style == api.SAscii {
				behind += fmt.Sprintf("%03d%X", len(text), text)
			} else {
				behind += string([]byte{byte(len(text) / 100), byte(len(text)/10%10*16 + len(text)%10)}) + text
			}
		}
		checkEncode(t, wide(style), m, wantKind(style, "0800"), wantMap(style, nos...), behind)
	}
	checkEncode(t, mixed(api.SAscii, 0), with(full()...), "0800", "C020000008019201", "8400000004000001", strings.Join(texts(api.SAscii), ""))
}

func TestEncodeOfValuesThatLookLikeOtherParts(t *testing.T) {
	s := mixed(api.SAscii, 0)
	checkEncode(t, s, with(api.Value{No: 48, Text: "0800"}, api.Value{No: 102, Text: "8000000000000000"}), "0800", "8000000000010000", "0000000004000000", "0040800", "168000000000000000")
	checkEncode(t, s, api.Message{Mti: "0000", Fields: []api.Value{{No: 2, Text: "0"}, {No: 11, Text: "000000"}}}, "0000", "4020000000000000", "010", "000000")
}

// P17.1: Encode's faults

func TestEncodeOfSchemasThatMayNotBe(t *testing.T) {
	good := mixed(api.SAscii, 0)
	spoilt := func(do func(s *api.Schema)) api.Schema {
		s := api.Schema{Style: good.Style, Version: good.Version, Fields: slices.Clone(good.Fields)}
		do(&s)
		return s
	}
	schemas := []api.Schema{
		{},
		spoilt(func(s *api.Schema) { s.Version = 10 }),
		spoilt(func(s *api.Schema) { s.Version = -1 }),
		spoilt(func(s *api.Schema) { s.Fields[1] = s.Fields[0] }),
		spoilt(func(s *api.Schema) { slices.Reverse(s.Fields) }),
		spoilt(func(s *api.Schema) { s.Fields[0].No = 1 }),
		spoilt(func(s *api.Schema) { s.Fields[11].No = 129 }),
		spoilt(func(s *api.Schema) { s.Fields[3].Class = 0 }),
		spoilt(func(s *api.Schema) { s.Fields[3].Form = 4 }),
		spoilt(func(s *api.Schema) { s.Fields[0].Max = 100 }),
		spoilt(func(s *api.Schema) { s.Fields[0].Min = 20 }),
	}
	for _, style := range noStyles {
		schemas = append(schemas, spoilt(func(s *api.Schema) { s.Style = style }), api.Schema{Style: style})
	}
	for _, s := range schemas {
		for _, m := range []api.Message{with(), with(full()...), with(full()[0]), {}, {Mti: "1800"}, with(api.Value{No: 1}), with(api.Value{No: 11, Text: "x"})} {
			checkFault(t, s, m, api.ErrArg, -1)
		}
	}
}

func TestEncodeOfWrongMtis(t *testing.T) {
	for _, style := range styles {
		for _, m := range append(noMtis, "1800", "2800", "9800", "1804") {
			checkFault(t, mixed(style, 0), api.Message{Mti: m}, api.ErrMti, 0)
			checkFault(t, mixed(style, 0), api.Message{Mti: m, Fields: full()}, api.ErrMti, 0)
			checkFault(t, mixed(style, 0), api.Message{Mti: m, Fields: []api.Value{{No: 3}}}, api.ErrMti, 0)
		}
		for version := 1; version < 10; version++ {
			checkFault(t, mixed(style, version), with(full()...), api.ErrMti, 0)
		}
	}
}

func TestEncodeOfFieldsOutOfOrder(t *testing.T) {
	for _, style := range styles {
		s := mixed(style, 0)
		for at, one := range full() {
			checkFault(t, s, with(one, one), api.ErrOrder, one.No)
			for _, ahead := range full()[:at] {
				checkFault(t, s, with(one, ahead), api.ErrOrder, ahead.No)
			}
			for _, no := range []int{0, -1, math.MinInt} {
				checkFault(t, s, with(one, api.Value{No: no}), api.ErrOrder, no)
				checkFault(t, s, with(api.Value{No: no}, one), api.ErrOrder, no)
			}
		}
	}
}

func TestEncodeOfFieldsThatTheSchemaLacks(t *testing.T) {
	for _, style := range styles {
		s := mixed(style, 0)
		for _, no := range []int{1, 3, 10, 12, 63, 66, 127, 129, 130, 1<<32 + 2, math.MaxInt} {
			checkFault(t, s, with(api.Value{No: no, Text: "000001"}), api.ErrNone, no)
			checkFault(t, api.Schema{Style: style}, with(api.Value{No: no}), api.ErrNone, no)
		}
		// The number of the bitmap's second half is no field's even where a field above 64 is there.
		checkFault(t, s, with(api.Value{No: 1}, full()[9]), api.ErrNone, 1)
		checkFault(t, s, with(full()[0], api.Value{No: 3}, full()[9]), api.ErrNone, 3)
		checkFault(t, s, with(full()[11], api.Value{No: 129}), api.ErrNone, 129)
	}
}

func TestEncodeOfValuesThatMayNotBe(t *testing.T) {
	for _, style := range styles {
		s := mixed(style, 0)
		for _, x := range wrongTexts {
			wrong := api.Value{No: x.no, Text: x.text}
			checkFault(t, s, with(wrong), x.want, x.no)
			among := full()
			for at := range among {
				if among[at].No == x.no {
					among[at] = wrong
				}
			}
			checkFault(t, s, with(among...), x.want, x.no)
			// The first of several faults.
			checkFault(t, s, with(wrong, wrong), x.want, x.no)
			checkFault(t, s, with(wrong, api.Value{No: 130}), x.want, x.no)
			checkFault(t, s, with(api.Value{No: 1}, wrong), api.ErrNone, 1)
			checkFault(t, s, with(api.Value{No: 0}, wrong), api.ErrOrder, 0)
			checkFault(t, s, api.Message{Mti: "1800", Fields: []api.Value{wrong}}, api.ErrMti, 0)
			checkFault(t, api.Schema{}, with(wrong), api.ErrArg, -1)
		}
	}
}

func TestEncodeTellsWhatMsgTells(t *testing.T) {
	pool := []api.Value{{No: 2, Text: "41"}, {No: 70, Text: "301"}, {No: 2, Text: "x"}, {No: 55, Text: "\x5a"}, {No: 3}, {No: 1}, {No: 0}, {No: 129}}
	for _, style := range styles {
		s := mixed(style, 0)
		for _, a := range pool {
			for _, b := range pool {
				for _, c := range pool {
					m := with(a, b, c)
					want := msg.Check(s, m)
					if want == (api.Fault{}) {
						t.Fatalf("valid: %#v", m)
					}
					checkFault(t, s, m, want.Err, want.Field)
				}
			}
		}
	}
}

// P17.2

// several: valid messages, no two alike, by a schema of version 0.
func several() []api.Message {
	var all []api.Message
	for _, m := range []string{"0800", "0000", "0801", "0810", "0999"} {
		all = append(all, api.Message{Mti: m})
		for _, text := range []string{"0", "00", "000", "1", "4", "41", "410", "0410"} {
			all = append(all, api.Message{Mti: m, Fields: []api.Value{{No: 2, Text: text}}}, api.Message{Mti: m, Fields: []api.Value{{No: 65, Text: text}}})
			for _, other := range []string{"000", "0", "00", "1", "10", "01"} {
				all = append(all, api.Message{Mti: m, Fields: []api.Value{{No: 2, Text: text}, {No: 64, Text: other}}})
				all = append(all, api.Message{Mti: m, Fields: []api.Value{{No: 2, Text: text}, {No: 65, Text: other}}})
				all = append(all, api.Message{Mti: m, Fields: []api.Value{{No: 64, Text: other}, {No: 65, Text: text}}})
			}
		}
	}
	for bits := 1; bits < 1<<len(full()); bits += 3 {
		all = append(all, some(bits))
	}
	return all
}

func TestUnlikeMessagesHaveUnlikeBytes(t *testing.T) {
	for _, style := range styles {
		s := mixed(style, 0)
		var spelt []string
		for _, m := range several() {
			spelt = append(spelt, encode(t, s, m))
		}
		// In order, what begins like another one stands right behind it.
		slices.Sort(spelt)
		for at := 1; at < len(spelt); at++ {
			if strings.HasPrefix(spelt[at], spelt[at-1]) {
				t.Errorf("style %d: %q begins with %q", style, spelt[at], spelt[at-1])
			}
		}
	}
}

func TestEachPartStandsInItsPlace(t *testing.T) {
	for _, style := range styles {
		s := mixed(style, 0)
		for _, m := range several() {
			rest := encode(t, s, m)
			var nos []int
			for _, one := range m.Fields {
				nos = append(nos, one.No)
			}
			parts := []string{wantKind(style, m.Mti), wantMap(style, nos...)}
			for _, one := range m.Fields {
				alone := encode(t, s, with(one))
				parts = append(parts, alone[len(wantKind(style, "0800"))+len(wantMap(style, one.No)):])
			}
			for _, part := range parts {
				if !strings.HasPrefix(rest, part) {
					t.Fatalf("style %d, %#v: %q should stand ahead of %q", style, m, part, rest)
				}
				rest = rest[len(part):]
			}
			if rest != "" {
				t.Errorf("style %d, %#v: behind all %q", style, m, rest)
			}
		}
	}
}

func TestAFieldMoreMakesItsBytesMore(t *testing.T) {
	half := []int{16, 8}
	for _, style := range styles {
		s := mixed(style, 0)
		for bits := range 1 << len(full()) {
			before := encode(t, s, some(bits))
			for at, one := range full() {
				if bits>>at&1 == 1 {
					continue
				}
				want := len(before) + len(texts(style)[at])
				// The eight fields up to 64 stand ahead of the others.
				if one.No > 64 && bits>>8 == 0 {
					want += half[style-1]
				}
				if got := len(encode(t, s, some(bits|1<<at))); got != want {
					t.Errorf("style %d, fields %b: with field %d %d bytes; want %d", style, bits, one.No, got, want)
				}
			}
		}
	}
}

// The rules that hold everywhere

func TestWhatIsHandedInStays(t *testing.T) {
	for _, style := range styles {
		for _, list := range [][]api.Value{full(), {}, full()[3:9], {full()[4], full()[2]}, {{No: 3, Text: "x"}}} {
			// Spare room behind the lists, too.
			room := append(slices.Clone(list), full()...)
			whole := slices.Clone(room)
			m := api.Message{Mti: "0800", Fields: room[:len(list)]}
			s := mixed(style, 0)
			specs := append(slices.Clone(s.Fields), s.Fields...)
			wholeSpecs := slices.Clone(specs)
			s.Fields = specs[:len(s.Fields)]
			Encode(s, m)
			if !slices.Equal(room, whole) || !slices.Equal(specs, wholeSpecs) || m.Mti != "0800" || len(m.Fields) != len(list) {
				t.Errorf("style %d: %#v became %#v, %v", style, list, room, specs)
			}
		}
	}
}

func TestWhatIsAnsweredStays(t *testing.T) {
	for _, style := range styles {
		s, m := mixed(style, 0), with(full()...)
		got := encode(t, s, m)
		for at := range m.Fields {
			m.Fields[at] = api.Value{No: -1, Text: "spoilt"}
		}
		for at := range s.Fields {
			s.Fields[at] = api.Spec{}
		}
		if got != wantSome(style, 1<<len(full())-1) {
			t.Errorf("style %d: what was answered became %q", style, got)
		}
	}
}

func TestNilAndEmptyListsAreOne(t *testing.T) {
	for _, style := range append(noStyles, styles...) {
		for _, version := range []int{0, 1, 10} {
			var want string
			var wantFault api.Fault
			for at, list := range [][]api.Value{nil, {}} {
				for of, specs := range [][]api.Spec{nil, {}} {
					got, fault := Encode(api.Schema{Style: style, Version: version, Fields: specs}, api.Message{Mti: "0800", Fields: list})
					if at+of == 0 {
						want, wantFault = got, fault
					}
					if got != want || fault != wantFault {
						t.Errorf("style %d, version %d: %q, %v; of nil %q, %v", style, version, got, fault, want, wantFault)
					}
				}
			}
		}
	}
}

func TestNothingIsKept(t *testing.T) {
	for range 3 {
		checkEncode(t, mixed(api.SAscii, 0), with(full()...), wantSome(api.SAscii, 1<<12-1))
		checkFault(t, mixed(api.SAscii, 0), with(full()[1], full()[0]), api.ErrOrder, 2)
		checkEncode(t, mixed(api.SBinary, 0), with(full()[0]), wantSome(api.SBinary, 1))
		checkFault(t, mixed(api.SBinary, 1), with(full()[0]), api.ErrMti, 0)
		checkEncode(t, mixed(api.SAscii, 0), with(), "0800", "0000000000000000")
		checkType(t, api.SBinary, "1804", "\x18\x04", true)
		checkType(t, 3, "1804", "", false)
	}
}

func TestLongOnesEnd(t *testing.T) {
	const many = 1 << 18
	list := slices.Repeat([]api.Value{{No: 2, Text: "4"}}, many)
	checkFault(t, mixed(api.SAscii, 0), with(list...), api.ErrOrder, 2)
	long := strings.Repeat("0", 1<<22)
	checkType(t, api.SAscii, long, "", false)
	checkType(t, api.SBinary, long, "", false)
	if _, fault := Encode(mixed(api.SBinary, 0), with(api.Value{No: 65, Text: long})); fault != (api.Fault{Err: api.ErrRange, Field: 65}) {
		t.Errorf("a long text: %v", fault)
	}
}
