package plant_test

import (
	"fmt"
	"strings"
	"testing"

	"cannery/api"
	"cannery/plant"
)

// prints tells what each line of a script prints, all of them done on one plant.
type prints struct{ line, want string }

func checkPrints(t *testing.T, p *plant.Plant, l []prints) {
	t.Helper()
	for _, x := range l {
		want := x.want + "\n"
		if got := plant.Do(p, x.line+"\n"); got != want {
			t.Errorf("%q prints %q, not %q", x.line, got, want)
		}
	}
}

// Of 10.5: what the lines of a script print.
func TestScript(t *testing.T) {
	checkPrints(t, opened(t, setup()), []prints{
		{"now", "0"},
		{"cook peas fish 1 100 20000 300", "error 5"},
		{"lot fish 100", "ok"},
		{"lot fish 100", "error 6"},
		{"lot Fish 100", "error 1"},
		{"lot brine 0", "error 7"},
		{"tear 1" + goodSeam, "ok"},
		{"tear 2" + goodSeam, "ok"},
		{"tear 1" + goodSeam, "error 1"},
		{"safe 0", "no"},
		{"wait 1", "ok"},
		{"lot batch 120", "ok"},
		{"lot other 120", "ok"},
		{"use fish batch 90 100", "ok"},
		{"use batch fish 1 1", "error 9"},
		{"cook peas batch 1 100 20000 280", "released 1324"},
		{"cook peas batch 2 90 20000 280" + mild, "released 1259"},
		{"cook peas other 3 60 20000 300" + medium, "destroyed 958"},
		{"cook peas batch 4 50 20000 300" + strong, "again 616"},
		{"cook stone batch 5 50 20000 300", "error 8"},
		{"cook peas other 6 70 200000 300", "released 27453"},
		{"judge 1", "error 11"},
		{"wait 2", "ok"},
		{"tear 1" + goodSeam, "ok"},
		{"tear 2" + goodSeam, "ok"},
		{"wait 1", "ok"},
		{"tear 2" + badSeam, "ok"},
		{"now", "4"},
		{"safe 0", "yes"},
		{"safe 2", "yes"},
		{"safe 3", "no"},
		{"safe 4", "no"},
		{"safe -1", "error 7"},
		{"safe 100000000", "no"},
		{"safe 100000001", "error 7"},
		{"safe 1000000000000000", "error 7"},
		{"safe 1000000000000001", "error 14"},
		{"judge 1", "ok"},
		{"judge 1", "error 10"},
		{"judge 2", "ok"},
		{"judge 5", "ok"},
		{"judge 6", "error 5"},
		{"find fish", ""},
		{"find nothing", "error 5"},
		{"ship 1 joe", "ok"},
		{"ship 2 joe", "ok"},
		{"ship 6 ann", "ok"},
		{"ship 4 ann", "error 11"},
		{"find fish", "joe:190"},
		{"find batch", "joe:190"},
		{"find other", "ann:70"},
		{"find Fish", "error 5"},
		{"account batch", "240 50 190 0 0"},
		{"account other", "130 0 70 60 0"},
		{"account fish", "0 0 0 0 0"},
		{"account Anything;", "0 0 0 0 0"},
		{"back 2", "ok"},
		{"find fish", "joe:100"},
		{"account batch", "240 140 100 0 0"},
		{"scrap 2", "ok"},
		{"account batch", "240 50 100 90 0"},
		{"recall fish", "ok fish batch"},
		{"recall batch", "ok batch"},
		{"recall x", "error 5"},
		{"find batch", "joe:100"},
	})
}

// Of 10.5: find tells the customers of all lots that may hold the lot, in order.
func TestFind(t *testing.T) {
	p := ran(t, summer)
	for about, want := range map[string]string{"fish": "ann:70 joe:100", "brine": "ann:70 joe:100", "batch": "ann:70 joe:100", "tin": "ann:70", "cans": "", "other": ""} {
		if out := plant.Do(p, "find "+about); out != want+"\n" {
			t.Errorf("find %s prints %q", about, out)
		}
	}
}

// Of 10.5: a load that is held.
func TestHeldIsPrinted(t *testing.T) {
	x := setup()
	x.Vessel.Chart = 5
	p := opened(t, x)
	if out := plant.Do(p, "lot a 1\ncook peas a 1 1 20000 300\n"); out != "ok\nheld 1324\n" {
		t.Errorf("prints %q", out)
	}
}

// misreadLines are lines that are no commands.
func misreadLines() []string {
	l := []string{
		" ", "  ", "x", "Wait 1", "wait1", "wait\t1", "\t", "wait 1\r", "\x00", "ü 1",
		" now", "now ", "now now", "now  ", "Now", "nows",
		"account", "account ", "account a b", "account  a", "account a ", " account a",
		"find", "find ", "find a b", "find  a", "find a ",
		"safe", "safe ", "safe x", "safe 0 ", "safe  0", "safe 00", "safe +1", "safe -0", "safe 1 2", "safe 1.5", "safe 0x1", "safe 1_0",
		"lot", "lot a", "lot a b", "lot a 1 1", "lot  1", "lot  a 1", "lot a  1", "lot 1 a",
		"recall", "recall ", "recall a b", "recall  a", "recall a ",
		"ship 1", "ship joe 1", "ship 1 joe joe", "ship  joe", "ship 1 ", "ship 1  joe",
		"use a b 1", "use a b 1 2 3", "use a b 1 x", "use a 1 2", "use a  1 2", "use  b 1 2",
		"cook peas a 1 1 1", "cook peas a 1 1 1 x", "cook peas a 1 1 1 1 ", "cook peas a 1 1 1 1 x", "cook peas a 1 1 1 1 1", "cook  a 1 1 1 1",
		"cook peas a 1 1 1 1 1:2", "cook peas a 1 1 1 1 1:2:3:4", "cook peas a 1 1 1 1 1:2:", "cook peas a 1 1 1 1 ::", "cook peas a 1 1 1 1 1::3", "cook peas a 1 1 1 1 :2:3",
		"cook peas a 1 1 1 1 1:2:x", "cook peas a 1 1 1 1 01:2:3", "cook peas a 1 1 1 1 1:+2:3", "cook peas a 1 1 1 1 1:2:3  1:2:3", "cook peas a 1 1 1 1 1:2:3 ",
		"cook peas a 1 1 1 1 1:2:3 x", "cook peas a 1 1 1 1 1:2:1000000000000001", "cook peas a 1 1 1 1 1 : 2 : 3", "cook peas a 1 1 1 1 1:2:3 1",
		"tear", "tear 1 2 3 4 5 6 7 8", "tear 1 2 3 4 5 6 7 8 9 10", "tear 1 2 3 4 5 6 7 8 x", "tear 1 2 3 4  5 6 7 8 9",
		"wait 1000000000000001", "wait -1000000000000001", "wait 99999999999999999999", "wait 9223372036854775808",
	}
	for _, word := range []string{"wait", "judge", "back", "scrap"} {
		for _, rest := range []string{"", " ", " x", " 1 ", "  1", " 1 1", " 01", " +1", " -0", " 00", " 1x", " 0x1", " 1_0", " 1.0", " 1e1", " ١"} {
			l = append(l, word+rest)
		}
	}
	return l
}

// Of 10.5: a line that is no command prints error 14 and does nothing, and makes no book.
func TestMisreadLines(t *testing.T) {
	script := "lot a 10\nlot b 10\ncook peas a 1 1 20000 300\nwait 2\n"
	p := ran(t, script)
	before := told(p)
	for _, line := range misreadLines() {
		if out := plant.Do(p, line+"\n"); out != "error 14\n" {
			t.Errorf("%q prints %q", line, out)
		}
		if told(p) != before {
			t.Fatalf("%q changes the plant", line)
		}
		book := string(p.Bytes())
		last := p.Lines()[len(p.Lines())-1]
		book += fmt.Sprintf("%d %d %d %s\n", last.Number+1, last.Tick, sumOf(last.Sum, last.Number+1, last.Tick, line), line)
		if q, e := plant.Read(setup(), []byte(book)); q != nil || e != api.ErrState {
			t.Errorf("Read with %q = %v, %d", line, q, e)
		}
	}
}

// Of 10.5: numbers from -10^15 to 10^15 are read, also where the command fails.
func TestNumbersOfScripts(t *testing.T) {
	checkPrints(t, ran(t, "lot a 10\n"), []prints{
		{"wait 1000000000000000", "error 7"},
		{"wait -1000000000000000", "error 7"},
		{"wait 0", "error 7"},
		{"wait -1", "error 7"},
		{"judge -1000000000000000", "error 5"},
		{"lot b -1", "error 7"},
		{"ship -1 joe", "error 7"},
		{"ship 1 1", "error 1"},
		{"back 0", "error 7"},
		{"scrap 1", "error 5"},
		{"recall 7", "error 5"},
		{"lot 7 7", "error 1"},
		{"tear -1 -2 -3 -4 -5 -6 -7 -8 -9", "error 1"},
		{"use a b -1 -1", "error 5"},
		{"cook peas a 1 1 -5 0", "error 8"},
		{"cook peas a 1 1 -50001 0", "error 7"},
		{"cook peas a 1 1 20000 0 -1:2:3", "error 1"},
		{"cook peas a 1 1 20000 0 1:2:-1000000000000000", "error 1"},
		{"cook peas a 1 1 20000 0" + strings.Repeat(" 1:2:3", 17), "error 1"},
		{"cook beans a 1 1 0 0" + strings.Repeat(" 1:2:3", 16), "released 804"},
	})
}

// Of 10.5: lines without anything, without an end, and texts that are too long.
func TestScriptsAsTexts(t *testing.T) {
	for script, want := range map[string]string{
		"":                                       "",
		"\n":                                     "",
		"\n\n\nnow\n\n":                          "0\n",
		"now":                                    "0\n",
		"wait 5\nnow":                            "ok\n5\n",
		"wait 5":                                 "ok\n",
		"x":                                      "error 14\n",
		"now\r\n":                                "error 14\n",
		"wait 5\n wait":                          "ok\nerror 14\n",
		"wait 0\nwait 1":                         "error 7\nok\n",
		strings.Repeat("\n", 65536):              "",
		strings.Repeat("\n", 65533) + "now":      "0\n",
		strings.Repeat("\n", 65533) + "now\n":    "error 3\n",
		strings.Repeat("\n", 65537):              "error 3\n",
		"wait 5\n" + strings.Repeat("\n", 65530): "error 3\n",
		"wait 5\n" + strings.Repeat("\n", 65529): "ok\n",
		strings.Repeat("x", 65536):               "error 14\n",
		strings.Repeat("x", 65537):               "error 3\n",
		strings.Repeat("account a\n", 3):         strings.Repeat("0 0 0 0 0\n", 3),
		"account " + strings.Repeat("a", 60000):  "0 0 0 0 0\n",
		"recall " + strings.Repeat("a ", 30000):  "error 14\n",
		"lot " + strings.Repeat("a", 60000) + " 1": "error 1\n",
	} {
		p := opened(t, setup())
		if out := plant.Do(p, script); out != want {
			t.Errorf("%.40q prints %.40q", script, out)
		}
		if len(script) > 65536 && !plant.Same(p, opened(t, setup())) {
			t.Errorf("%.40q does something", script)
		}
	}
	if out := plant.Do(nil, ""); out != "error 1\n" {
		t.Errorf("Do of nil prints %q", out)
	}
	if out := plant.Do(nil, "now\nwait 1\n"+strings.Repeat("\n", 65536)); out != "error 1\n" {
		t.Errorf("Do of nil prints %q", out)
	}
}

// Of P10.6: a script may be cut behind any line feed.
func TestCutScripts(t *testing.T) {
	t.Parallel()
	script := summer + "now\nfind brine\n\naccount batch\nwait 0\nx\nsafe 2\nrecall tin\nnow"
	whole := plant.Do(opened(t, setup()), script)
	for i := range script {
		if script[i] != '\n' {
			continue
		}
		p := opened(t, setup())
		if out := plant.Do(p, script[:i+1]) + plant.Do(p, script[i+1:]); out != whole {
			t.Fatalf("cut at %d it prints %q", i, out)
		}
	}
	if strings.Count(whole, "\n") != strings.Count(script, "\n") {
		t.Errorf("prints %q", whole)
	}
}
