package process_test

import (
	"slices"
	"strconv"
	"strings"
	"testing"

	"cannery/api"
	"cannery/process"
)

const text = "peas 40000 121000 60 300\ncorn -50000 0 1 1000000\npeas 40000 121000 60 300\n"

// many makes n valid schedules.
func many(n int) []api.Schedule {
	l := make([]api.Schedule, n)
	for i := range l {
		l[i] = api.Schedule{Product: "p" + strconv.Itoa(i%9), Initial: 1000*i - 30000, Temp: 3000 * i, Ticks: 30*i + 1, Fill: 15000*i + 1}
	}
	return l
}

// 4.5
func TestFormat(t *testing.T) {
	l := []api.Schedule{peas(), {Product: "corn", Initial: -50000, Temp: 0, Ticks: 1, Fill: 1000000}, peas()}
	if s := process.Format(l); s != text {
		t.Errorf("Format = %q", s)
	}
	if process.Format(nil) != "" || process.Format([]api.Schedule{}) != "" {
		t.Error("Format of nothing")
	}
	if strings.Count(process.Format(many(64)), "\n") != 64 || process.Format(many(65)) != "" {
		t.Error("Format of many")
	}
	for _, s := range badSchedules() {
		if text := process.Format([]api.Schedule{peas(), s}); text != "" {
			t.Errorf("Format of %v = %q", s, text)
		}
	}
}

// 4.5, P4.6, P11
func TestParseReadsWhatFormatWrites(t *testing.T) {
	for _, l := range [][]api.Schedule{nil, {peas()}, schedules(), shelf(), many(1), many(63), many(64)} {
		m, line, e := process.Parse(process.Format(l))
		if e != api.OK || line != 0 || !slices.Equal(m, l) {
			t.Errorf("Parse(Format(%v)) = %v, %d, %d", l, m, line, e)
		}
	}
}

// 4.5, P11: nothing else is read.
func TestParseErrors(t *testing.T) {
	full := process.Format(many(64))
	for _, c := range []struct {
		s    string
		line int
	}{
		{"\n", 0},
		{" ", 0},
		{"peas", 0},
		{"peas 0 0 1 1", 0},
		{text[:len(text)-1], 2},
		{text + "\n", 3},
		{"\n" + text, 0},
		{text + "peas", 3},
		{text + "x\ny\n", 3},
		{text + "peas 0 0 0 1\n" + text, 3},
		{full + "peas 0 0 1 1\n", 64},
		{full + "peas 0 0 1 1", 64},
		{full + "\n", 64},
		{full + "x", 64},
		{full[:len(full)-1], 63},
		{"Peas 0 0 1 1\n", 0},
		{"9 0 0 1 1\n", 0},
		{" 0 0 1 1\n", 0},
		{"abcdefghijklmnopq 0 0 1 1\n", 0},
		{"peas 0 0 1\n", 0},
		{"peas 0 0 1 1 1\n", 0},
		{"peas 0 0 1 1 \n", 0},
		{" peas 0 0 1 1\n", 0},
		{"peas  0 0 1 1\n", 0},
		{"peas\t0 0 1 1\n", 0},
		{"peas 0 0 1 1\r\n", 0},
		{"peas -0 0 1 1\n", 0},
		{"peas 00 0 1 1\n", 0},
		{"peas +1 0 1 1\n", 0},
		{"peas -01 0 1 1\n", 0},
		{"peas 0 01 1 1\n", 0},
		{"peas 0 0 1 1_0\n", 0},
		{"peas 0 0x1 1 1\n", 0},
		{"peas 0 0 1.0 1\n", 0},
		{"peas - 0 1 1\n", 0},
		{"peas 0 0 1 99999999999999999999\n", 0},
		{"peas 200001 0 1 1\n", 0},
		{"peas -50001 0 1 1\n", 0},
		{"peas 0 -1 1 1\n", 0},
		{"peas 0 200001 1 1\n", 0},
		{"peas 0 0 0 1\n", 0},
		{"peas 0 0 2001 1\n", 0},
		{"peas 0 0 1 0\n", 0},
		{"peas 0 0 1 1000001\n", 0},
		{"peas 0 0 1 1\npeas 0 0 1 1\x00\n", 1},
	} {
		if l, line, e := process.Parse(c.s); e != api.ErrSyntax || line != c.line || len(l) != 0 {
			t.Errorf("Parse(%q) = %v, %d, %d", c.s, l, line, e)
		}
	}
}

// P11: a text that is read is the text of what was read. All texts that differ from one in a byte, or lack one, are tried.
func TestParseReadsNothingElse(t *testing.T) {
	for i := range len(text) {
		tryText(t, text[:i])
		tryText(t, text[:i]+text[i+1:])
		for c := range 256 {
			tryText(t, text[:i]+string([]byte{byte(c)})+text[i+1:])
			tryText(t, text[:i]+string([]byte{byte(c)})+text[i:])
		}
	}
}

func tryText(t *testing.T, s string) {
	l, line, e := process.Parse(s)
	if e == api.OK && (line != 0 || process.Format(l) != s) {
		t.Errorf("Parse(%q) = %v, %d", s, l, line)
	}
	if e != api.OK && (e != api.ErrSyntax || len(l) != 0 || line > strings.Count(s, "\n")) {
		t.Errorf("Parse(%q) = %v, %d, %d", s, l, line, e)
	}
}

// 4.5, R2: a text that is too long is not read at all.
func TestParseLongTexts(t *testing.T) {
	for _, s := range []string{strings.Repeat("a", api.MaxText+1), text + strings.Repeat("\n", api.MaxText)} {
		if l, line, e := process.Parse(s); e != api.ErrLong || line != 0 || len(l) != 0 {
			t.Errorf("Parse of %d bytes = %v, %d, %d", len(s), l, line, e)
		}
	}
	if l, line, e := process.Parse(text + strings.Repeat("a", api.MaxText-len(text))); e != api.ErrSyntax || line != 3 || len(l) != 0 {
		t.Errorf("Parse of the longest text: %d, %d", line, e)
	}
}
