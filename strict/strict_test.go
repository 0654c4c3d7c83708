package strict

import (
	"encoding/hex"
	"fmt"
	"math"
	"slices"
	"strconv"
	"strings"
	"testing"

	"groat/api"
	"groat/dialect"
	"groat/msg"
	"groat/spec"
	"groat/wire"
)

// tagged is a list's bytes by layer 10: 9F 02 of two bytes.
const tagged = "\x9f\x02\x02\x01\x00"

var styles = []int{api.SAscii, api.SBinary}

// noStyles: numbers that are none of both styles.
var noStyles = []int{math.MinInt, -2, -1, 0, 3, 4, 1 << 8, 1<<8 + 1, 1<<32 + 1, 1<<32 + 2, math.MaxInt}

// mixed: a schema of each class and each form, on both sides of 64.
func mixed(style, version int) api.Schema {
	return api.Schema{Style: style, Version: version, Fields: []api.Spec{
		{No: 2, Class: api.CDigits, Form: api.FTwo, Min: 1, Max: 19},
		{No: 11, Class: api.CDigits, Form: api.FFixed, Min: 6, Max: 6},
		{No: 37, Class: api.CAlnum, Form: api.FFixed, Min: 12, Max: 12},
		{No: 48, Class: api.CPrint, Form: api.FThree, Min: 1, Max: 999},
		{No: 49, Class: api.CLetters, Form: api.FFixed, Min: 3, Max: 3},
		{No: 52, Class: api.CBytes, Form: api.FFixed, Min: 8, Max: 8},
		{No: 55, Class: api.CTlv, Form: api.FThree, Min: 1, Max: 255},
		{No: 64, Class: api.CBytes, Form: api.FTwo, Min: 1, Max: 99},
		{No: 65, Class: api.CDigits, Form: api.FThree, Min: 1, Max: 999},
		{No: 70, Class: api.CDigits, Form: api.FFixed, Min: 3, Max: 3},
		{No: 102, Class: api.CPrint, Form: api.FTwo, Min: 1, Max: 28},
		{No: 128, Class: api.CBytes, Form: api.FFixed, Min: 8, Max: 8},
	}}
}

// full: all fields of mixed, with values that may be.
func full() []api.Value {
	return []api.Value{
		{No: 2, Text: "411111111111111"}, {No: 11, Text: "000001"}, {No: 37, Text: "ABCdef123456"}, {No: 48, Text: "a text, 1"},
		{No: 49, Text: "EUR"}, {No: 52, Text: "\x00\xff\n\x80abc\x01"}, {No: 55, Text: tagged}, {No: 64, Text: "\x64\xaf"},
		{No: 65, Text: "6500"}, {No: 70, Text: "301"}, {No: 102, Text: "DE 102"}, {No: 128, Text: "12345678"},
	}
}

// texts: for each of the fields of full its bytes, by hand.
func texts(style int) []string {
	if style == api.SAscii {
		return []string{
			"15411111111111111", "000001", "ABCdef123456", "009a text, 1",
			"EUR", "00FF0A8061626301", "0059F02020100", "0264AF",
			"0046500", "301", "06DE 102", "3132333435363738",
		}
	}
	return []string{
		"\x15\x04\x11\x11\x11\x11\x11\x11\x11", "\x00\x00\x01", "ABCdef123456", "\x00\x09a text, 1",
		"EUR", "\x00\xff\n\x80abc\x01", "\x00\x05" + tagged, "\x02\x64\xaf",
		"\x00\x04\x65\x00", "\x03\x01", "\x06DE 102", "12345678",
	}
}

// wrongText: bytes that aren't a field's, and what is wrong with them.
type wrongText struct {
	no   int
	text string
	want api.Errno
}

// wrongTexts: of fields of mixed bytes that are wrong in each way that layer 12 tells.
func wrongTexts(style int) []wrongText {
	if style == api.SAscii {
		return []wrongText{
			{2, "", api.ErrCut}, {2, "1", api.ErrCut}, {2, "0441x", api.ErrCut}, {2, "1x", api.ErrForm}, {2, "-1411", api.ErrForm},
			{2, "00", api.ErrRange}, {2, "20" + strings.Repeat("4", 20), api.ErrRange}, {2, "20", api.ErrRange}, {2, "0441x1", api.ErrClass},
			{11, "12345", api.ErrCut}, {11, "x2345", api.ErrCut}, {11, "12345x", api.ErrClass}, {11, "\x00\x00\x01\x00\x00\x01", api.ErrClass},
			{37, "ABCdef12345", api.ErrCut}, {37, "ABCdef 12345", api.ErrClass},
			{48, "00", api.ErrCut}, {48, "003ab", api.ErrCut}, {48, "0a3abc", api.ErrForm}, {48, "000", api.ErrRange}, {48, "003a\nb", api.ErrClass},
			{49, "EU", api.ErrCut}, {49, "97x", api.ErrClass},
			{52, "00FF0A806162630", api.ErrCut}, {52, "00ff0a8061626301", api.ErrForm}, {52, "00FF0A806162630G", api.ErrForm},
			{55, "005", api.ErrCut}, {55, "0055A0", api.ErrCut}, {55, "256", api.ErrRange}, {55, "0025a00", api.ErrForm}, {55, "0025A01", api.ErrTag}, {55, "0015A", api.ErrTag}, {55, "0045A005A00", api.ErrTag}, {55, "0027000", api.ErrTag},
			{64, "02A", api.ErrCut}, {64, "00", api.ErrRange}, {64, "010x", api.ErrForm}, {64, "0x", api.ErrForm},
			{65, "0", api.ErrCut}, {65, "004123", api.ErrCut}, {65, "000", api.ErrRange}, {65, "0036-5", api.ErrClass},
			{70, "30", api.ErrCut}, {70, "3O1", api.ErrClass},
			{102, "29", api.ErrRange}, {102, "02a\xff", api.ErrClass}, {102, " 2ab", api.ErrForm},
			{128, "313233343536373", api.ErrCut}, {128, "31323334353637-8", api.ErrForm},
		}
	}
	return []wrongText{
		{2, "", api.ErrCut}, {2, "\x04\x41", api.ErrCut}, {2, "\x1a\x41", api.ErrForm}, {2, "\xa1", api.ErrForm},
		{2, "\x00", api.ErrRange}, {2, "\x20" + strings.Repeat("\x44", 10), api.ErrRange}, {2, "\x20", api.ErrRange}, {2, "\x03\x14\x11", api.ErrPad}, {2, "\x03\x14\x1f", api.ErrPad}, {2, "\x04\x41\x1d", api.ErrForm},
		{11, "\x12\x34", api.ErrCut}, {11, "\xff\xff", api.ErrCut}, {11, "\x12\x34\x5a", api.ErrForm},
		{37, "ABCdef12345", api.ErrCut}, {37, "ABCdef 12345", api.ErrClass},
		{48, "\x00", api.ErrCut}, {48, "\x00\x03ab", api.ErrCut}, {48, "\x00\x0aabc", api.ErrForm}, {48, "\x10\x03abc", api.ErrForm}, {48, "\x00\x00", api.ErrRange}, {48, "\x00\x03a\nb", api.ErrClass},
		{49, "EU", api.ErrCut}, {49, "97x", api.ErrClass},
		{52, "1234567", api.ErrCut},
		{55, "\x00\x05", api.ErrCut}, {55, "\x00\x05\x5a", api.ErrCut}, {55, "\x02\x56", api.ErrRange}, {55, "\x00\x02\x5a\x01", api.ErrTag}, {55, "\x00\x01\x5a", api.ErrTag}, {55, "\x00\x04\x5a\x00\x5a\x00", api.ErrTag}, {55, "\x00\x02\x70\x00", api.ErrTag},
		{64, "\x02A", api.ErrCut}, {64, "\x00", api.ErrRange}, {64, "\x0f", api.ErrForm},
		{65, "\x00", api.ErrCut}, {65, "\x00\x04\x12", api.ErrCut}, {65, "\x00\x00", api.ErrRange}, {65, "\x00\x03\x11\x23", api.ErrPad}, {65, "\x00\x03\x01\x2b", api.ErrForm},
		{70, "\x03", api.ErrCut}, {70, "\x13\x01", api.ErrPad}, {70, "\x0a\x01", api.ErrForm},
		{102, "\x29", api.ErrRange}, {102, "\x02a\xff", api.ErrClass}, {102, "\xf2ab", api.ErrForm},
		{128, "1234567", api.ErrCut},
	}
}

// wide: a schema with all fields; each may have one byte to 999.
func wide(style int) api.Schema {
	s := api.Schema{Style: style}
	for no := 2; no <= api.MaxField; no++ {
		s.Fields = append(s.Fields, api.Spec{No: no, Class: api.CBytes, Form: api.FThree, Min: 1, Max: 999})
	}
	return s
}

// with: a message of version 0 with these fields.
func with(list ...api.Value) api.Message { return api.Message{Mti: "0800", Fields: list} }

// some: a message with those of full's fields whose bits are set.
func some(bits int) api.Message {
	m := with()
	for at, one := range full() {
		if bits>>at&1 == 1 {
			m.Fields = append(m.Fields, one)
		}
	}
	return m
}

// all is the bits of all of full's fields.
const all = 1<<12 - 1

// spellKind: an MTI's bytes, by another way than the program's.
func spellKind(style int, m string) string {
	if style == api.SAscii {
		return m
	}
	return string([]byte{(m[0]-'0')*16 + m[1] - '0', (m[2]-'0')*16 + m[3] - '0'})
}

// spellMap: the bitmap of rising numbers, bit by bit.
func spellMap(style int, nos ...int) string {
	halves := make([]byte, 8, 16)
	if len(nos) > 0 && nos[len(nos)-1] > 64 {
		halves = halves[:16]
		nos = append([]int{1}, nos...)
	}
	for _, no := range nos {
		halves[(no-1)/8] |= 128 >> ((no - 1) % 8)
	}
	if style == api.SAscii {
		return fmt.Sprintf("%X", halves)
	}
	return string(halves)
}

// head: the bytes of 0800 and of the bitmap of rising numbers.
func head(style int, nos ...int) string {
	return spellKind(style, "0800") + spellMap(style, nos...)
}

// spellSome: the bytes of some(bits), part by part, which are those of head ahead of all others.
func spellSome(style, bits int) []string {
	nos, parts := []int{}, []string{""}
	for at, one := range full() {
		if bits>>at&1 == 1 {
			nos = append(nos, one.No)
			parts = append(parts, texts(style)[at])
		}
	}
	parts[0] = head(style, nos...)
	return parts
}

// second: a message read by another way than the program's, under a schema that may be.
func second(s api.Schema, b string) (api.Message, api.Fault) {
	size := 4 / s.Style
	if len(b) < size {
		return api.Message{}, api.Fault{Err: api.ErrCut, Field: 0}
	}
	kind, rest := b[:size], b[size:]
	if s.Style == api.SBinary {
		kind = hex.EncodeToString([]byte(kind))
	}
	if n, bad := strconv.ParseUint(kind, 10, 32); bad != nil || int(n/1000) != s.Version {
		return api.Message{}, api.Fault{Err: api.ErrMti, Field: 0}
	}
	m := api.Message{Mti: kind}
	nos, rest, err := secondMap(s.Style, rest)
	if err != api.OK {
		return m, api.Fault{Err: err, Field: 1}
	}
	for _, no := range nos {
		place := slices.IndexFunc(s.Fields, func(one api.Spec) bool { return one.No == no })
		if place < 0 {
			return m, api.Fault{Err: api.ErrNone, Field: no}
		}
		var text string
		text, rest, err = secondField(s.Style, s.Fields[place], rest)
		if err != api.OK {
			return m, api.Fault{Err: err, Field: no}
		}
		m.Fields = append(m.Fields, api.Value{No: no, Text: text})
	}
	if rest != "" {
		return m, api.Fault{Err: api.ErrMore, Field: 129}
	}
	return m, api.Fault{}
}

// secondMap: the numbers that a bitmap tells, and what is behind it.
func secondMap(style int, b string) ([]int, string, api.Errno) {
	var nos []int
	for half := range 2 {
		size := 16 / style
		if len(b) < size {
			return nil, "", api.ErrCut
		}
		bits := b[:size]
		if style == api.SAscii {
			plain, bad := hex.DecodeString(bits)
			if bad != nil || strings.ContainsAny(bits, "abcdef") {
				return nil, "", api.ErrForm
			}
			bits = string(plain)
		}
		b = b[size:]
		before := len(nos)
		for place := range 64 {
			if bits[place/8]>>(7-place%8)&1 == 1 {
				nos = append(nos, 64*half+place+1)
			}
		}
		if half == 1 && len(nos) == before {
			return nil, "", api.ErrBitmap
		}
		if half == 0 && (len(nos) == 0 || nos[0] != 1) {
			return nos, b, api.OK
		}
	}
	return nos[1:], b, api.OK
}

// secondField: a field's value, and what is behind it.
func secondField(style int, said api.Spec, b string) (string, string, api.Errno) {
	n := said.Max
	if said.Form != api.FFixed {
		size, digits := said.Form, ""
		if style == api.SBinary {
			size = said.Form - 1
		}
		if len(b) < size {
			return "", "", api.ErrCut
		}
		digits, b = b[:size], b[size:]
		if style == api.SBinary {
			digits = hex.EncodeToString([]byte(digits))
		}
		told, bad := strconv.ParseUint(digits, 10, 32)
		if bad != nil || len(digits) > said.Form && digits[0] != '0' {
			return "", "", api.ErrForm
		}
		if n = int(told); n < said.Min || n > said.Max {
			return "", "", api.ErrRange
		}
	}
	packed := style == api.SBinary && said.Class == api.CDigits
	sixteen := style == api.SAscii && (said.Class == api.CBytes || said.Class == api.CTlv)
	size := n
	if packed {
		size = (n + 1) / 2
	}
	if sixteen {
		size = 2 * n
	}
	if len(b) < size {
		return "", "", api.ErrCut
	}
	text, rest := b[:size], b[size:]
	if packed {
		text = hex.EncodeToString([]byte(text))
		if n%2 == 1 && text[0] != '0' {
			return "", "", api.ErrPad
		}
		if text = text[n%2:]; strings.ContainsAny(text, "abcdef") {
			return "", "", api.ErrForm
		}
	}
	if sixteen {
		plain, bad := hex.DecodeString(text)
		if bad != nil || strings.ContainsAny(text, "abcdef") {
			return "", "", api.ErrForm
		}
		text = string(plain)
	}
	return text, rest, spec.Value(said, text)
}

// same: are two messages the same, where nil and an empty list are one?
func same(a, b api.Message) bool { return a.Mti == b.Mti && slices.Equal(a.Fields, b.Fields) }

func checkRead(t *testing.T, s api.Schema, want api.Message, parts ...string) {
	t.Helper()
	b := strings.Join(parts, "")
	if m, fault := Decode(s, b); !same(m, want) || fault != (api.Fault{}) {
		t.Errorf("Decode(%v, %q): %#v, %v; want %#v", s, b, m, fault, want)
	}
}

// checkFault: is this told, and does just this message stand beside it, which is valid if it has an MTI?
func checkFault(t *testing.T, s api.Schema, b string, err api.Errno, field int, ahead api.Message) {
	t.Helper()
	m, fault := Decode(s, b)
	if want := (api.Fault{Err: err, Field: field}); fault != want || !same(m, ahead) {
		t.Errorf("Decode(%v, %q): %#v, %v; want %#v, %v", s, b, m, fault, ahead, want)
	}
	if m.Mti == "" {
		return
	}
	if fault := msg.Check(s, m); fault != (api.Fault{}) {
		t.Errorf("Decode(%v, %q): %#v, which isn't valid: %v", s, b, m, fault)
	}
}

// checkSecond: is told what the second reader tells, and of a message just its bytes?
func checkSecond(t *testing.T, s api.Schema, b string) {
	t.Helper()
	m, fault := Decode(s, b)
	if want, wantFault := second(s, b); !same(m, want) || fault != wantFault {
		t.Fatalf("Decode(%v, %q): %#v, %v; the second reader %#v, %v", s, b, m, fault, want, wantFault)
	}
	if fault == (api.Fault{}) {
		checkSpelling(t, s, m, b)
	}
	if m.Mti == "" {
		if len(m.Fields) > 0 {
			t.Fatalf("Decode(%v, %q): %#v has fields without an MTI", s, b, m)
		}
		return
	}
	if wrong := msg.Check(s, m); wrong != (api.Fault{}) {
		t.Fatalf("Decode(%v, %q): %#v, which isn't valid: %v", s, b, m, wrong)
	}
}

// checkSpelling: is a message encoded as just these bytes?
func checkSpelling(t *testing.T, s api.Schema, m api.Message, b string) {
	t.Helper()
	if again, fault := wire.Encode(s, m); again != b || fault != (api.Fault{}) {
		t.Fatalf("Decode(%v, %q): %#v, whose bytes are %q, %v", s, b, m, again, fault)
	}
}

// P18.1: messages, and the document's examples

func TestDecodeOfTheChaptersExamples(t *testing.T) {
	checkFault(t, dialect.Acquirer(), "0800"+"0020000000000000"+"12345", api.ErrCut, 11, with())
	checkFault(t, api.Schema{Style: api.SAscii, Version: 0}, "0900x", api.ErrCut, 1, api.Message{Mti: "0900"})
	checkFault(t, dialect.Acquirer(), "0900x", api.ErrCut, 1, api.Message{Mti: "0900"})
}

func TestDecodeOfTheWholesExamples(t *testing.T) {
	one := api.Value{No: 11, Text: "000001"}
	checkRead(t, dialect.Acquirer(), with(one), "0800", "0020000000000000", "000001")
	checkRead(t, dialect.Issuer(), api.Message{Mti: "1804", Fields: []api.Value{one}}, "\x18\x04", "\x00\x20\x00\x00\x00\x00\x00\x00", "\x00\x00\x01")
	checkRead(t, dialect.Acquirer(), with(one, api.Value{No: 70, Text: "301"}), "0800", "8020000000000000", "0400000000000000", "000001", "301")
	checkFault(t, dialect.Acquirer(), "0800"+"0020000000000000"+"00001", api.ErrCut, 11, with())
	checkFault(t, dialect.Acquirer(), "0800"+"0800000000000000", api.ErrNone, 5, with())
	card := api.Value{No: 55, Text: "\x82\x01\x61"}
	checkRead(t, dialect.Acquirer(), with(card), "0800", "0000000000000200", "003", "820161")
	checkRead(t, dialect.Issuer(), api.Message{Mti: "1804", Fields: []api.Value{card}}, "\x18\x04", "\x00\x00\x00\x00\x00\x00\x02\x00", "\x00\x03\x82\x01\x61")
	checkRead(t, dialect.Issuer(), api.Message{Mti: "1804", Fields: []api.Value{one, {No: 26, Text: "5999"}}}, "\x18\x04", "\x00\x20\x00\x40\x00\x00\x00\x00", "\x00\x00\x01", "\x59\x99")
	checkRead(t, dialect.Acquirer(), api.Message{Mti: "0200", Fields: []api.Value{one, {No: 39, Text: "07"}}}, "0200", "0020000002000000", "000001", "07")
}

func TestDecodeOfNoField(t *testing.T) {
	for _, style := range styles {
		for _, s := range []api.Schema{mixed(style, 0), wide(style), {Style: style}, {Style: style, Fields: []api.Spec{}}} {
			checkRead(t, s, with(), head(style))
		}
	}
	checkRead(t, mixed(api.SAscii, 0), with(), "0800", "0000000000000000")
	checkRead(t, mixed(api.SBinary, 0), with(), "\x08\x00", "\x00\x00\x00\x00\x00\x00\x00\x00")
}

func TestDecodeOfEachField(t *testing.T) {
	for _, style := range styles {
		for at, one := range full() {
			checkRead(t, mixed(style, 0), with(one), head(style, one.No), texts(style)[at])
		}
		for no := 2; no <= api.MaxField; no++ {
			checkRead(t, wide(style), with(api.Value{No: no, Text: "N"}), head(style, no), []string{"0014E", "\x00\x01N"}[style-1])
		}
	}
	checkRead(t, mixed(api.SAscii, 0), with(full()[7]), "0800", "0000000000000001", "0264AF")
	checkRead(t, mixed(api.SAscii, 0), with(full()[8]), "0800", "8000000000000000", "8000000000000000", "0046500")
	checkRead(t, mixed(api.SAscii, 0), with(full()[11]), "0800", "8000000000000000", "0000000000000001", "3132333435363738")
	checkRead(t, mixed(api.SBinary, 0), with(full()[11]), "\x08\x00", "\x80\x00\x00\x00\x00\x00\x00\x00", "\x00\x00\x00\x00\x00\x00\x00\x01", "12345678")
}

func TestDecodeOfTheLeastAndTheGreatestValues(t *testing.T) {
	for _, x := range []struct {
		no            int
		text          string
		ascii, binary string
	}{
		{2, "4", "014", "\x01\x04"},
		{2, "42", "0242", "\x02\x42"},
		{2, strings.Repeat("9", 19), "19" + strings.Repeat("9", 19), "\x19\x09" + strings.Repeat("\x99", 9)},
		{48, " ", "001 ", "\x00\x01 "},
		{48, strings.Repeat("~", 999), "999" + strings.Repeat("~", 999), "\x09\x99" + strings.Repeat("~", 999)},
		{55, "\x5a\x00", "0025A00", "\x00\x02\x5a\x00"},
		{55, "\x5a\x81\xfc" + strings.Repeat("\xfe", 252), "2555A81FC" + strings.Repeat("FE", 252), "\x02\x55\x5a\x81\xfc" + strings.Repeat("\xfe", 252)},
		{64, "\x0f", "010F", "\x01\x0f"},
		{64, strings.Repeat("\x9a", 99), "99" + strings.Repeat("9A", 99), "\x99" + strings.Repeat("\x9a", 99)},
		{65, "00", "00200", "\x00\x02\x00"},
		{65, "0", "0010", "\x00\x01\x00"},
		{65, strings.Repeat("8", 999), "999" + strings.Repeat("8", 999), "\x09\x99\x08" + strings.Repeat("\x88", 499)},
	} {
		m := with(api.Value{No: x.no, Text: x.text})
		checkRead(t, mixed(api.SAscii, 0), m, head(api.SAscii, x.no), x.ascii)
		checkRead(t, mixed(api.SBinary, 0), m, head(api.SBinary, x.no), x.binary)
	}
}

func TestDecodeOfAllChoicesOfFields(t *testing.T) {
	for _, style := range styles {
		s := mixed(style, 0)
		for bits := range all + 1 {
			checkRead(t, s, some(bits), spellSome(style, bits)...)
		}
	}
}

func TestDecodeOfAllFields(t *testing.T) {
	checkRead(t, mixed(api.SAscii, 0), with(full()...), "0800", "C020000008019201", "8400000004000001", strings.Join(texts(api.SAscii), ""))
	for _, style := range styles {
		m, nos, behind := with(), []int{}, ""
		for no := 2; no <= api.MaxField; no++ {
			text := strings.Repeat(string([]byte{byte(no + 100)}), 7*no)
			m.Fields = append(m.Fields, api.Value{No: no, Text: text})
			nos = append(nos, no)
			if style == api.SAscii {
				behind += fmt.Sprintf("%03d%X", len(text), text)
			} else {
				behind += string([]byte{byte(len(text) / 100), byte(len(text)/10%10*16 + len(text)%10)}) + text
			}
		}
		checkRead(t, wide(style), m, head(style, nos...), behind)
	}
}

func TestDecodeOfValuesThatLookLikeOtherParts(t *testing.T) {
	s := mixed(api.SAscii, 0)
	checkRead(t, s, with(api.Value{No: 48, Text: "0800"}, api.Value{No: 102, Text: "8000000000000000"}), "0800", "8000000000010000", "0000000004000000", "0040800", "168000000000000000")
	checkRead(t, s, api.Message{Mti: "0000", Fields: []api.Value{{No: 2, Text: "0"}, {No: 11, Text: "000000"}}}, "0000", "4020000000000000", "010", "000000")
}

func TestDecodeOfAllMtis(t *testing.T) {
	for _, style := range styles {
		for n := range 10000 {
			kind := fmt.Sprintf("%04d", n)
			for version := range 10 {
				s := api.Schema{Style: style, Version: version}
				b := spellKind(style, kind) + spellMap(style)
				if version == n/1000 {
					checkRead(t, s, api.Message{Mti: kind}, b)
				} else {
					checkFault(t, s, b, api.ErrMti, 0, api.Message{})
				}
			}
		}
	}
}

// P18.1: faults of the schema and of the MTI

func TestDecodeOfSchemasThatMayNotBe(t *testing.T) {
	for _, base := range styles {
		spoilt := func(do func(s *api.Schema)) api.Schema {
			s := mixed(base, 0)
			do(&s)
			return s
		}
		schemas := []api.Schema{
			{},
			{Style: base, Version: 10},
			spoilt(func(s *api.Schema) { s.Version = 10 }),
			spoilt(func(s *api.Schema) { s.Version = -1 }),
			spoilt(func(s *api.Schema) { s.Version = math.MinInt }),
			spoilt(func(s *api.Schema) { s.Fields[1] = s.Fields[0] }),
			spoilt(func(s *api.Schema) { slices.Reverse(s.Fields) }),
			spoilt(func(s *api.Schema) { s.Fields[10], s.Fields[11] = s.Fields[11], s.Fields[10] }),
			spoilt(func(s *api.Schema) { s.Fields[0].No = 1 }),
			spoilt(func(s *api.Schema) { s.Fields[11].No = 129 }),
			spoilt(func(s *api.Schema) { s.Fields[3].Class = 0 }),
			spoilt(func(s *api.Schema) { s.Fields[3].Form = 4 }),
			spoilt(func(s *api.Schema) { s.Fields[0].Max = 100 }),
			spoilt(func(s *api.Schema) { s.Fields[0].Min = 20 }),
			spoilt(func(s *api.Schema) { s.Fields[6].Form = api.FFixed }),
			spoilt(func(s *api.Schema) { s.Fields[11].Min = 0 }),
		}
		for _, style := range noStyles {
			schemas = append(schemas, spoilt(func(s *api.Schema) { s.Style = style }), api.Schema{Style: style})
		}
		for _, s := range schemas {
			for _, b := range []string{"", "0", "0800", "1800", "x", "\x08\x00", "\x08", head(base), head(base, 3), head(base) + "x", head(base, 11) + texts(base)[1], strings.Join(spellSome(base, all), "")} {
				checkFault(t, s, b, api.ErrArg, -1, api.Message{})
			}
		}
	}
}

func TestDecodeOfCutMtis(t *testing.T) {
	for _, b := range []string{"", "0", "08", "080", "x", "18", "1", "\xff\xff\xff", "9x9", "\x08\x00"} {
		checkFault(t, mixed(api.SAscii, 0), b, api.ErrCut, 0, api.Message{})
		checkFault(t, api.Schema{Style: api.SAscii}, b, api.ErrCut, 0, api.Message{})
	}
	checkFault(t, mixed(api.SBinary, 0), "", api.ErrCut, 0, api.Message{})
	for c := range 256 {
		checkFault(t, mixed(api.SBinary, 0), string([]byte{byte(c)}), api.ErrCut, 0, api.Message{})
	}
}

func TestDecodeOfWhatIsNoMti(t *testing.T) {
	for _, b := range []string{"08a0", "a800", "0a00", "080a", "08/0", "08:0", " 800", "-800", "+800", "0x00", "08\x000", "\x08\x00\x00\x00", "\u06600\u0660", "\uff100", "08\n0"} {
		for _, behind := range []string{"", "0", spellMap(api.SAscii), spellMap(api.SAscii, 11) + "000001", spellMap(api.SAscii, 3)} {
			checkFault(t, mixed(api.SAscii, 0), b[:4]+behind, api.ErrMti, 0, api.Message{})
		}
	}
	// Each byte in each place.
	for c := range 256 {
		for at := range 4 {
			kind := []byte("1234")
			kind[at] = byte(c)
			s := mixed(api.SAscii, 1)
			if c >= '0' && c <= '9' && (at > 0 || c == '1') {
				checkRead(t, s, api.Message{Mti: string(kind)}, string(kind), spellMap(api.SAscii))
			} else {
				checkFault(t, s, string(kind)+spellMap(api.SAscii), api.ErrMti, 0, api.Message{})
			}
		}
	}
	// Each two bytes of SBinary, under each version: each half a digit, and the first one the version.
	for n := range 1 << 16 {
		digits := fmt.Sprintf("%04x", n)
		b := string([]byte{byte(n >> 8), byte(n)}) + spellMap(api.SBinary)
		version := min(n>>12, 9)
		s := api.Schema{Style: api.SBinary, Version: version}
		if strings.Trim(digits, "0123456789") == "" {
			checkRead(t, s, api.Message{Mti: digits}, b)
		} else {
			checkFault(t, s, b, api.ErrMti, 0, api.Message{})
		}
	}
}

func TestDecodeOfOtherVersions(t *testing.T) {
	for _, style := range styles {
		for version := range 10 {
			for first := range 10 {
				kind := fmt.Sprintf("%d421", first)
				b := spellKind(style, kind)
				if first == version {
					checkFault(t, mixed(style, version), b, api.ErrCut, 1, api.Message{Mti: kind})
					checkRead(t, mixed(style, version), api.Message{Mti: kind, Fields: full()[1:2]}, b, spellMap(style, 11), texts(style)[1])
					continue
				}
				for _, behind := range []string{"", "x", spellMap(style), spellMap(style, 11) + texts(style)[1], spellMap(style, 3)} {
					checkFault(t, mixed(style, version), b+behind, api.ErrMti, 0, api.Message{})
				}
			}
		}
	}
}

// P18.1: faults of the bitmap

func TestDecodeOfCutBitmaps(t *testing.T) {
	for _, style := range styles {
		for _, s := range []api.Schema{mixed(style, 0), {Style: style}} {
			kind := spellKind(style, "0800")
			for _, nos := range [][]int{{}, {2}, {3}, {64}, {65}, {2, 65}, {3, 66}, {128}, {2, 11, 64, 65, 128}} {
				which := spellMap(style, nos...)
				for at := range len(which) {
					checkFault(t, s, kind+which[:at], api.ErrCut, 1, with())
				}
			}
		}
	}
	// A cut is told ahead of a wrong form, in each half.
	checkFault(t, mixed(api.SAscii, 0), "0800"+strings.Repeat("x", 15), api.ErrCut, 1, with())
	checkFault(t, mixed(api.SAscii, 0), "0800"+"8000000000000000"+strings.Repeat("x", 15), api.ErrCut, 1, with())
	checkFault(t, mixed(api.SBinary, 0), "\x08\x00"+"\x80"+strings.Repeat("\x00", 14), api.ErrCut, 1, with())
}

func TestDecodeOfBitmapsOfWrongForm(t *testing.T) {
	s := mixed(api.SAscii, 0)
	for _, nos := range [][]int{{}, {2}, {65}, {11, 128}} {
		for at := range len(spellMap(api.SAscii, nos...)) {
			for c := range 256 {
				if strings.IndexByte("0123456789ABCDEF", byte(c)) >= 0 {
					continue
				}
				which := []byte(spellMap(api.SAscii, nos...))
				which[at] = byte(c)
				for _, behind := range []string{"", "x", strings.Repeat("0", 60)} {
					checkFault(t, s, "0800"+string(which)+behind, api.ErrForm, 1, with())
				}
			}
		}
	}
}

func TestDecodeOfBitmapsThatMayNotBe(t *testing.T) {
	for _, behind := range []string{"", "0", "000001", "0800"} {
		checkFault(t, mixed(api.SAscii, 0), "0800"+"8000000000000000"+"0000000000000000"+behind, api.ErrBitmap, 1, with())
		checkFault(t, mixed(api.SAscii, 0), "0800"+"8020000000000000"+"0000000000000000"+behind, api.ErrBitmap, 1, with())
		checkFault(t, mixed(api.SAscii, 0), "0800"+"9000000000000000"+"0000000000000000"+behind, api.ErrBitmap, 1, with())
		checkFault(t, mixed(api.SBinary, 0), "\x08\x00"+"\x80"+strings.Repeat("\x00", 15)+behind, api.ErrBitmap, 1, with())
		checkFault(t, mixed(api.SBinary, 0), "\x08\x00"+"\xff"+strings.Repeat("\xff", 7)+strings.Repeat("\x00", 8)+behind, api.ErrBitmap, 1, with())
		checkFault(t, dialect.Issuer(), "\x18\x00"+"\x80"+strings.Repeat("\x00", 15)+behind, api.ErrBitmap, 1, api.Message{Mti: "1800"})
	}
}

// P18.1: faults of fields

func TestDecodeOfFieldsThatTheSchemaLacks(t *testing.T) {
	for _, style := range styles {
		s := mixed(style, 0)
		for no := 2; no <= api.MaxField; no++ {
			checkFault(t, api.Schema{Style: style}, head(style, no), api.ErrNone, no, with())
			checkFault(t, api.Schema{Style: style}, head(style, no)+"000001", api.ErrNone, no, with())
			if slices.ContainsFunc(s.Fields, func(one api.Spec) bool { return one.No == no }) {
				continue
			}
			checkFault(t, s, head(style, no), api.ErrNone, no, with())
			checkFault(t, s, head(style, no)+"000001", api.ErrNone, no, with())
			// Among all that it has, behind those that are read.
			nos, ahead, bytes := []int{no}, with(), ""
			for at, one := range full() {
				nos = append(nos, one.No)
				bytes += texts(style)[at]
				if one.No < no {
					ahead.Fields = append(ahead.Fields, one)
				}
			}
			slices.Sort(nos)
			checkFault(t, s, head(style, nos...)+bytes, api.ErrNone, no, ahead)
		}
	}
}

// among: the bytes of all of full's fields up to that of this number, which has this text, and of those behind it, if they are asked for; and the message of those ahead of it.
func among(style, no int, text string, behind bool) (string, api.Message) {
	b, ahead := spellSome(style, all)[0], with()
	for at, one := range full() {
		switch {
		case one.No == no:
			b += text
		case one.No < no:
			b += texts(style)[at]
			ahead.Fields = append(ahead.Fields, one)
		case behind:
			b += texts(style)[at]
		}
	}
	return b, ahead
}

func TestDecodeOfWrongFields(t *testing.T) {
	for _, style := range styles {
		s := mixed(style, 0)
		for _, x := range wrongTexts(style) {
			checkFault(t, s, head(style, x.no)+x.text, x.want, x.no, with())
			b, ahead := among(style, x.no, x.text, false)
			checkFault(t, s, b, x.want, x.no, ahead)
			// Behind what is cut no bytes may stand: they would be its.
			if x.want == api.ErrCut {
				continue
			}
			checkFault(t, s, head(style, x.no)+x.text+"x", x.want, x.no, with())
			b, ahead = among(style, x.no, x.text, true)
			checkFault(t, s, b, x.want, x.no, ahead)
		}
	}
}

func TestTheLeastFaultIsTold(t *testing.T) {
	for _, style := range styles {
		s := mixed(style, 0)
		for at, x := range wrongTexts(style) {
			if x.no > 3 {
				checkFault(t, s, head(style, 3, x.no)+x.text, api.ErrNone, 3, with())
				checkFault(t, s, head(style, 2, 3, x.no)+texts(style)[0]+x.text, api.ErrNone, 3, with(full()[0]))
			}
			if x.no < 127 {
				checkFault(t, s, head(style, x.no, 127)+x.text, x.want, x.no, with())
			}
			// Behind what is cut no bytes may stand: they would be its.
			if x.want == api.ErrCut {
				continue
			}
			for _, y := range wrongTexts(style)[at+1:] {
				if y.no > x.no {
					checkFault(t, s, head(style, x.no, y.no)+x.text+y.text, x.want, x.no, with())
				}
			}
		}
	}
}

func TestFaultsOfOneKindGoAheadOfOthers(t *testing.T) {
	wrong := []struct{ kind, which, field string }{{"08x0", strings.Repeat("x", 16), "12345x"}, {"\x0a\x00", "\x80" + strings.Repeat("\x00", 15), "\x12\x34\x5a"}}
	bitmaps := []api.Errno{api.ErrForm, api.ErrBitmap}
	cells := []api.Errno{api.ErrClass, api.ErrForm}
	for at, style := range styles {
		s, kind, which := mixed(style, 0), spellKind(style, "0800"), spellMap(style, 11)
		x := wrong[at]
		checkFault(t, api.Schema{Style: style, Version: 10}, x.kind+x.which+x.field, api.ErrArg, -1, api.Message{})
		checkFault(t, s, x.kind+x.which+x.field+"x", api.ErrMti, 0, api.Message{})
		checkFault(t, s, x.kind+which+x.field+"x", api.ErrMti, 0, api.Message{})
		checkFault(t, s, kind+x.which+x.field+"x", bitmaps[at], 1, with())
		checkFault(t, s, kind+which+x.field+"x", cells[at], 11, with())
		checkFault(t, s, kind+which+texts(style)[1]+"x", api.ErrMore, 129, with(full()[1]))
	}
}

// P18.1: bytes that are left

func TestDecodeOfMoreBytes(t *testing.T) {
	for _, style := range styles {
		s := mixed(style, 0)
		for bits := range all + 1 {
			b := strings.Join(spellSome(style, bits), "")
			for _, more := range []string{"x", "\x00", texts(style)[11], b} {
				checkFault(t, s, b+more, api.ErrMore, 129, some(bits))
			}
		}
		for c := range 256 {
			more := string([]byte{byte(c)})
			checkFault(t, s, head(style)+more, api.ErrMore, 129, with())
			checkFault(t, api.Schema{Style: style}, head(style)+more, api.ErrMore, 129, with())
			checkFault(t, s, head(style, 128)+texts(style)[11]+more, api.ErrMore, 129, with(full()[11]))
		}
	}
}

// P18.2

// dialects: schemas of both styles, those that are built in among them.
func dialects() []api.Schema {
	list := []api.Schema{dialect.Acquirer(), dialect.Issuer()}
	for _, style := range styles {
		for _, version := range []int{0, 1, 9} {
			list = append(list, mixed(style, version))
		}
		list = append(list, wide(style), api.Schema{Style: style, Version: 3})
	}
	return list
}

// longOnes: a valid message with all of a schema's fields, each with as many bytes as may be or as few.
func longOnes(s api.Schema, most bool) api.Message {
	m := api.Message{Mti: strconv.Itoa(s.Version) + "421"}
	for _, said := range s.Fields {
		n := said.Min
		if most {
			n = said.Max
		}
		m.Fields = append(m.Fields, api.Value{No: said.No, Text: filled(said.Class, n)})
	}
	return m
}

// filled: a value of a class with so many bytes; a list of tags is one tag, and has at least two.
func filled(class, n int) string {
	if class != api.CTlv {
		sign := map[int]string{api.CDigits: "7", api.CLetters: "q", api.CAlnum: "Z", api.CPrint: "~", api.CBytes: "\xfe"}[class]
		return strings.Repeat(sign, n)
	}
	switch {
	case n <= 2:
		return "\x5a\x00"
	case n < 131:
		return "\x5a" + string([]byte{byte(n - 2)}) + strings.Repeat("\x70", n-2)
	case n < 259:
		return "\x5a\x81" + string([]byte{byte(n - 3)}) + strings.Repeat("\x70", n-3)
	}
	return "\x5a\x82" + string([]byte{byte((n - 4) >> 8), byte(n - 4)}) + strings.Repeat("\x70", n-4)
}

// checkBack: is a valid message read from its bytes as it was?
func checkBack(t *testing.T, s api.Schema, m api.Message) string {
	t.Helper()
	b, fault := wire.Encode(s, m)
	if fault != (api.Fault{}) {
		t.Fatalf("Encode(%v, %#v): %v", s, m, fault)
	}
	checkRead(t, s, m, b)
	return b
}

func TestWhatIsEncodedIsDecoded(t *testing.T) {
	for _, s := range dialects() {
		for _, most := range []bool{false, true} {
			m := longOnes(s, most)
			checkBack(t, s, m)
			for at, one := range m.Fields {
				checkBack(t, s, api.Message{Mti: m.Mti, Fields: []api.Value{one}})
				checkBack(t, s, api.Message{Mti: m.Mti, Fields: m.Fields[:at]})
				checkBack(t, s, api.Message{Mti: m.Mti, Fields: m.Fields[at:]})
				checkBack(t, s, msg.Without(m, one.No))
			}
		}
	}
	for _, style := range styles {
		for bits := range all + 1 {
			checkBack(t, mixed(style, 0), some(bits))
		}
		for version := range 10 {
			for at := range 1000 {
				checkBack(t, mixed(style, version), api.Message{Mti: fmt.Sprintf("%d%03d", version, at), Fields: full()[at%12:]})
			}
		}
	}
}

// spoilt: bytes with each byte at each of these places.
func spoilt(b string, from, to int, do func(string)) {
	for at := from; at < to; at++ {
		for c := range 256 {
			other := []byte(b)
			other[at] = byte(c)
			do(string(other))
		}
	}
}

func TestOneByteIsAnother(t *testing.T) {
	for _, style := range styles {
		s := mixed(style, 0)
		for _, bits := range []int{0, 1, 1 << 6, 1 << 9, 3, 1<<1 | 1<<9, 1<<7 | 1<<8, all >> 4, all} {
			b := strings.Join(spellSome(style, bits), "")
			spoilt(b, 0, len(b), func(other string) { checkSecond(t, s, other) })
			spoilt(b+"000", 0, len(b), func(other string) { checkSecond(t, s, other) })
		}
	}
	for _, s := range []api.Schema{dialect.Acquirer(), dialect.Issuer()} {
		b := checkBack(t, s, longOnes(s, false))
		spoilt(b, 0, len(b), func(other string) { checkSecond(t, s, other) })
	}
}

func TestAByteIsMissingOrTwice(t *testing.T) {
	for _, style := range styles {
		s := mixed(style, 0)
		for bits := range all + 1 {
			b := strings.Join(spellSome(style, bits), "")
			for at := range b {
				checkSecond(t, s, b[:at]+b[at+1:])
				checkSecond(t, s, b[:at]+b[at:at+1]+b[at:])
				checkSecond(t, s, b[at:])
			}
		}
	}
}

func TestAllShortTexts(t *testing.T) {
	for _, style := range styles {
		s := api.Schema{Style: style, Fields: []api.Spec{
			{No: 2, Class: api.CDigits, Form: api.FTwo, Min: 1, Max: 3},
			{No: 3, Class: api.CDigits, Form: api.FFixed, Min: 1, Max: 1},
			{No: 64, Class: api.CBytes, Form: api.FFixed, Min: 1, Max: 1},
			{No: 65, Class: api.CTlv, Form: api.FThree, Min: 2, Max: 9},
			{No: 128, Class: api.CAlnum, Form: api.FTwo, Min: 1, Max: 1},
		}}
		signs := []string{"012Aa", "\x00\x01\x02\x1a\x5a"}[style-1]
		for _, nos := range [][]int{{}, {2}, {3}, {64}, {65}, {128}, {2, 3}, {3, 64}, {3, 65}, {64, 128}, {2, 3, 64}, {2, 3, 4}, {2, 127}} {
			ahead := head(style, nos...)
			short(signs, 6, func(text string) { checkSecond(t, s, ahead+text) })
		}
		short(signs, 6, func(text string) { checkSecond(t, s, text) })
	}
}

// short: all texts of these signs, up to so many.
func short(signs string, most int, do func(string)) {
	list := []string{""}
	for range most + 1 {
		var longer []string
		for _, text := range list {
			do(text)
			for at := range signs {
				longer = append(longer, text+signs[at:at+1])
			}
		}
		list = longer
	}
}

func TestAllBitmapsOfOneOrTwoFields(t *testing.T) {
	for _, style := range styles {
		s := mixed(style, 0)
		behind := strings.Join(texts(style), "")
		for a := 2; a <= api.MaxField; a++ {
			for b := a + 1; b <= api.MaxField; b++ {
				for _, rest := range []string{"", behind, texts(style)[1] + texts(style)[9]} {
					checkSecond(t, s, head(style, a, b)+rest)
				}
			}
		}
	}
}

func TestCutAnywhere(t *testing.T) {
	for _, style := range styles {
		s := mixed(style, 0)
		for bits := range all + 1 {
			parts := spellSome(style, bits)
			whole := some(bits)
			kind := len(spellKind(style, "0800"))
			for at := range kind {
				checkFault(t, s, parts[0][:at], api.ErrCut, 0, api.Message{})
			}
			for at := kind; at < len(parts[0]); at++ {
				checkFault(t, s, parts[0][:at], api.ErrCut, 1, with())
			}
			ahead := parts[0]
			for place, one := range whole.Fields {
				for at := range parts[place+1] {
					checkFault(t, s, ahead+parts[place+1][:at], api.ErrCut, one.No, with(whole.Fields[:place]...))
				}
				ahead += parts[place+1]
			}
			checkRead(t, s, whole, ahead)
		}
	}
}

func TestCutAndMoreOfDialects(t *testing.T) {
	for _, s := range dialects() {
		m := longOnes(s, false)
		b := checkBack(t, s, m)
		for at := range b {
			part, fault := Decode(s, b[:at])
			if fault.Err != api.ErrCut || len(part.Fields) > 0 && !slices.Equal(part.Fields, m.Fields[:len(part.Fields)]) {
				t.Errorf("style %d, cut off at %d: %#v, %v", s.Style, at, part, fault)
			}
			checkSecond(t, s, b[:at])
			checkFault(t, s, b+b[:at+1], api.ErrMore, 129, m)
		}
	}
}

// The rules that hold everywhere

func TestWhatIsHandedInStays(t *testing.T) {
	for _, style := range styles {
		for _, b := range []string{"", "08", head(style), strings.Join(spellSome(style, all), ""), head(style, 3), head(style) + "x", head(style, 2, 11) + texts(style)[0]} {
			for keep := range 13 {
				// Spare room behind the list, too.
				room := append(mixed(style, 0).Fields, wide(style).Fields...)
				before := slices.Clone(room)
				s := api.Schema{Style: style, Fields: room[:keep]}
				bytes := strings.Clone(b)
				Decode(s, bytes)
				if !slices.Equal(room, before) || bytes != b || len(s.Fields) != keep {
					t.Errorf("style %d, %q: %v became %v", style, b, before, room)
				}
			}
		}
	}
}

func TestWhatIsAnsweredIsNew(t *testing.T) {
	for _, style := range styles {
		whole := strings.Join(spellSome(style, all), "")
		for _, b := range []string{whole, whole[:len(whole)-1], whole + "x"} {
			s := mixed(style, 0)
			first, _ := Decode(s, b)
			want := slices.Clone(first.Fields)
			other, _ := Decode(s, b)
			// What is written over one answer, its spare room too, or over the schema, is seen in no other answer.
			room := other.Fields[:cap(other.Fields)]
			for at := range room {
				room[at] = api.Value{No: -1, Text: "spoilt"}
			}
			clear(s.Fields)
			again, _ := Decode(mixed(style, 0), b)
			if !slices.Equal(first.Fields, want) || !slices.Equal(again.Fields, want) || len(want) < 11 {
				t.Errorf("style %d: at first %v, then %v, again %v", style, want, first, again)
			}
		}
	}
}

func TestNilAndEmptyListsAreOne(t *testing.T) {
	for _, style := range append(noStyles, styles...) {
		for _, version := range []int{0, 1, 10} {
			for _, b := range []string{"", "x", "0800", "\x08\x00", head(api.SAscii), head(api.SBinary), head(api.SAscii, 2), head(api.SBinary, 128), head(api.SAscii) + "x"} {
				m, fault := Decode(api.Schema{Style: style, Version: version}, b)
				other, otherFault := Decode(api.Schema{Style: style, Version: version, Fields: []api.Spec{}}, b)
				if !same(m, other) || fault != otherFault || len(m.Fields) > 0 {
					t.Errorf("style %d, version %d, %q: of nil %#v, %v; of an empty list %#v, %v", style, version, b, m, fault, other, otherFault)
				}
			}
		}
	}
}

func TestNothingIsKept(t *testing.T) {
	for range 3 {
		checkRead(t, mixed(api.SAscii, 0), with(full()...), spellSome(api.SAscii, all)...)
		checkFault(t, mixed(api.SAscii, 1), head(api.SAscii), api.ErrMti, 0, api.Message{})
		checkRead(t, mixed(api.SBinary, 0), with(full()[0]), spellSome(api.SBinary, 1)...)
		checkFault(t, mixed(api.SBinary, 0), head(api.SBinary, 2, 11)+texts(api.SBinary)[0], api.ErrCut, 11, with(full()[0]))
		checkRead(t, mixed(api.SAscii, 0), with(), head(api.SAscii))
	}
}

func TestLongOnesEnd(t *testing.T) {
	long := strings.Repeat("0", 1<<23)
	checkFault(t, mixed(api.SAscii, 0), long, api.ErrMore, 129, api.Message{Mti: "0000"})
	checkFault(t, mixed(api.SBinary, 3), long, api.ErrNone, 3, api.Message{Mti: "3030"})
	checkFault(t, mixed(api.SAscii, 0), head(api.SAscii, 11)+long, api.ErrMore, 129, with(api.Value{No: 11, Text: "000000"}))
	checkFault(t, api.Schema{Style: api.SAscii, Fields: slices.Repeat(mixed(api.SAscii, 0).Fields[:1], 1<<18)}, long, api.ErrArg, -1, api.Message{})
}
