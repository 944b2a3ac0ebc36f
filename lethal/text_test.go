package lethal_test

import (
	"slices"
	"strconv"
	"strings"
	"testing"

	"cannery/api"
	"cannery/lethal"
)

const text = "spores 484 40 13 12\nvitamin_c 484 60 10000 1\n"

// named makes n killers with names of their own.
func named(n int) []api.Killer {
	l := make([]api.Killer, n)
	for i := range l {
		l[i] = api.Killer{Name: "k" + strconv.Itoa(i), Ref: 100*i - 200, Z: 7*i + 1, D: 1000*i + 1, Goal: i + 1}
	}
	return l
}

// 1.6
func TestFormat(t *testing.T) {
	l := []api.Killer{spores(), {Name: "vitamin_c", Ref: 484, Z: 60, D: 10000, Goal: 1}}
	if s := lethal.Format(l); s != text {
		t.Errorf("Format = %q", s)
	}
	if s := lethal.Format([]api.Killer{{Name: "a", Ref: -200, Z: 1, D: 1, Goal: 1}, {Name: "b", Ref: 0, Z: 1, D: 1, Goal: 1}}); s != "a -200 1 1 1\nb 0 1 1 1\n" {
		t.Errorf("Format = %q", s)
	}
	if lethal.Format(nil) != "" || lethal.Format([]api.Killer{}) != "" {
		t.Error("Format of nothing")
	}
	if lethal.Format(named(8)) == "" || lethal.Format(named(9)) != "" {
		t.Error("Format of eight and nine")
	}
	if lethal.Format(append(l, l[0])) != "" || lethal.Format(append(l, api.Killer{Name: "spores", Ref: 1, Z: 1, D: 1, Goal: 1})) != "" {
		t.Error("Format of a name twice")
	}
	for _, k := range invalids() {
		if s := lethal.Format([]api.Killer{spores(), k}); s != "" {
			t.Errorf("Format of %v = %q", k, s)
		}
	}
}

// 1.6, P1.6, P11
func TestParseReadsWhatFormatWrites(t *testing.T) {
	for _, l := range [][]api.Killer{nil, {spores()}, killers(), named(1), named(8)} {
		m, line, e := lethal.Parse(lethal.Format(l))
		if e != api.OK || line != 0 || !slices.Equal(m, l) {
			t.Errorf("Parse(Format(%v)) = %v, %d, %d", l, m, line, e)
		}
	}
}

// 1.6, P11: nothing else is read.
func TestParseErrors(t *testing.T) {
	eight := lethal.Format(named(8))
	for _, c := range []struct {
		s    string
		line int
	}{
		{"spores 484 40 13 12", 0},
		{"spores", 0},
		{"\n", 0},
		{" \n", 0},
		{"\n" + text, 0},
		{text + "\n", 2},
		{text + "a", 2},
		{text + "a 0 1 1 1", 2},
		{text + "spores 1 1 1 1\n", 2},
		{text + text, 2},
		{text + "x\ny\n", 2},
		{eight + "z 0 1 1 1\n", 8},
		{eight + "z", 8},
		{eight + "\n", 8},
		{"Spores 484 40 13 12\n", 0},
		{" 484 40 13 12\n", 0},
		{"a 0 1 1\n", 0},
		{"a 0 1 1 1 1\n", 0},
		{"a 0 1 1 1 \n", 0},
		{" a 0 1 1 1\n", 0},
		{"a  0 1 1 1\n", 0},
		{"a\t0 1 1 1\n", 0},
		{"a 0 1 1 1\r\n", 0},
		{"a 00 1 1 1\n", 0},
		{"a 01 1 1 1\n", 0},
		{"a -01 1 1 1\n", 0},
		{"a -0 1 1 1\n", 0},
		{"a +1 1 1 1\n", 0},
		{"a 0 01 1 1\n", 0},
		{"a 0 1 1 +1\n", 0},
		{"a 0 1 1 1_0\n", 0},
		{"a 0x1 1 1 1\n", 0},
		{"a 1.0 1 1 1\n", 0},
		{"a - 1 1 1\n", 0},
		{"a x 1 1 1\n", 0},
		{"a 0 1 1 99999999999999999999\n", 0},
		{"a 0 0 1 1\n", 0},
		{"a 0 61 1 1\n", 0},
		{"a 801 1 1 1\n", 0},
		{"a -201 1 1 1\n", 0},
		{"a 0 1 0 1\n", 0},
		{"a 0 1 1000001 1\n", 0},
		{"a 0 1 1 0\n", 0},
		{"a 0 1 1 21\n", 0},
		{"a 0 1 1 1\nb 0 61 1 1\n", 1},
		{"a 0 1 1 1\na 0 1 1 1\n", 1},
		{"a 0 1 1 1\nb 0 1 1 1\x00\n", 1},
	} {
		if l, line, e := lethal.Parse(c.s); e != api.ErrSyntax || line != c.line || len(l) != 0 {
			t.Errorf("Parse(%q) = %v, %d, %d", c.s, l, line, e)
		}
	}
}

// P11: a text that is read is the text of what was read. All texts that differ from one in a byte, or lack one, are tried.
func TestParseReadsNothingElse(t *testing.T) {
	for i := range len(text) {
		tryText(t, text[:i])
		tryText(t, text[:i]+text[i+1:])
		for c := range 256 {
			tryText(t, text[:i]+string([]byte{byte(c)})+text[i+1:])
			tryText(t, text[:i]+string([]byte{byte(c)})+text[i:])
		}
	}
}

func tryText(t *testing.T, s string) {
	l, line, e := lethal.Parse(s)
	if e == api.OK && (line != 0 || lethal.Format(l) != s) {
		t.Errorf("Parse(%q) = %v, %d", s, l, line)
	}
	if e != api.OK && (e != api.ErrSyntax || len(l) != 0 || line > strings.Count(s, "\n")) {
		t.Errorf("Parse(%q) = %v, %d, %d", s, l, line, e)
	}
}

// 1.6, R2: a text that is too long is not read at all.
func TestParseLongTexts(t *testing.T) {
	for _, s := range []string{strings.Repeat("a", api.MaxText+1), text + strings.Repeat("\n", api.MaxText)} {
		if l, line, e := lethal.Parse(s); e != api.ErrLong || line != 0 || len(l) != 0 {
			t.Errorf("Parse of %d bytes = %v, %d, %d", len(s), l, line, e)
		}
	}
	if _, line, e := lethal.Parse(text + strings.Repeat("a", api.MaxText-len(text))); e != api.ErrSyntax || line != 2 {
		t.Errorf("Parse of the longest text: %d, %d", line, e)
	}
}

// R4
func TestFormatKeepsItsArgument(t *testing.T) {
	whole := append(killers(), invalids()...)
	before := slices.Clone(whole)
	lethal.Format(whole[:3])
	if !slices.Equal(whole, before) {
		t.Error("the killers were changed")
	}
	l, _, _ := lethal.Parse(text)
	l[0].Name = "other"
	if m, _, _ := lethal.Parse(text); m[0] != spores() {
		t.Error("killers that were changed come back")
	}
}
