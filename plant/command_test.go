package plant_test

import (
	"fmt"
	"math"
	"slices"
	"strings"
	"testing"

	"cannery/api"
	"cannery/plant"
	"cannery/store"
	"cannery/trace"
)

func wait(n int) func(p *plant.Plant) api.Errno {
	return func(p *plant.Plant) api.Errno { return p.Wait(n) }
}

func lot(name string, size int) func(p *plant.Plant) api.Errno {
	return func(p *plant.Plant) api.Errno { return p.Lot(name, size) }
}

func use(from, to string, least, most int) func(p *plant.Plant) api.Errno {
	return func(p *plant.Plant) api.Errno { return p.Use(from, to, least, most) }
}

func tear(x api.Sheet) func(p *plant.Plant) api.Errno {
	return func(p *plant.Plant) api.Errno { return p.Tear(x) }
}

func judge(number int) func(p *plant.Plant) api.Errno {
	return func(p *plant.Plant) api.Errno { return p.Judge(number) }
}

func ship(pallet int, customer string) func(p *plant.Plant) api.Errno {
	return func(p *plant.Plant) api.Errno { return p.Ship(pallet, customer) }
}

func back(pallet int) func(p *plant.Plant) api.Errno {
	return func(p *plant.Plant) api.Errno { return p.Back(pallet) }
}

func scrap(pallet int) func(p *plant.Plant) api.Errno {
	return func(p *plant.Plant) api.Errno { return p.Scrap(pallet) }
}

func recall(lot string) func(p *plant.Plant) api.Errno {
	return func(p *plant.Plant) api.Errno {
		lots, e := p.Recall(lot)
		if e != api.OK && len(lots) > 0 {
			panic("lots with an error")
		}
		return e
	}
}

// Of 10.2: Wait.
func TestWait(t *testing.T) {
	try(t, setup(), "", []attempt{
		{"0", wait(0), api.ErrRange},
		{"-1", wait(-1), api.ErrRange},
		{"the least", wait(math.MinInt), api.ErrRange},
		{"1", wait(1), api.OK},
		{"MaxTick", wait(api.MaxTick), api.OK},
		{"MaxTick + 1", wait(api.MaxTick + 1), api.ErrRange},
		{"10^9", wait(1000000000), api.ErrRange},
		{"10^9 + 1", wait(1000000001), api.ErrRange},
		{"the most", wait(math.MaxInt), api.ErrRange},
	})
	try(t, setup(), "wait 99999990\n", []attempt{
		{"up to MaxTick", wait(10), api.OK},
		{"beyond it", wait(11), api.ErrRange},
		{"far beyond it", wait(math.MaxInt), api.ErrRange},
	})
	p := ran(t, "wait 5\nwait 7\n")
	if p.Now() != 12 {
		t.Errorf("Now = %d", p.Now())
	}
}

// Of 10.2: Lot and Use have the errors of trace.Check.
func TestLotsAndUses(t *testing.T) {
	try(t, setup(), "lot fish 100\n", []attempt{
		{"a lot", lot("brine", 50), api.OK},
		{"the greatest", lot("brine", 1000000000), api.OK},
		{"no name", lot("Brine", 50), api.ErrInvalid},
		{"empty name", lot("", 50), api.ErrInvalid},
		{"no name and too small", lot("Brine", 0), api.ErrInvalid},
		{"twice", lot("fish", 100), api.ErrDuplicate},
		{"twice and too small", lot("fish", 0), api.ErrDuplicate},
		{"too small", lot("brine", 0), api.ErrRange},
		{"too great", lot("brine", 1000000001), api.ErrRange},
	})
	try(t, setup(), "lot fish 100\nlot brine 50\nwait 1\nlot batch 120\nuse brine batch 20 30\n", []attempt{
		{"a use", use("fish", "batch", 90, 100), api.OK},
		{"all of it", use("fish", "batch", 0, 120), api.OK},
		{"of no lot", use("fisch", "batch", 90, 100), api.ErrName},
		{"into no lot", use("fish", "", 90, 100), api.ErrName},
		{"of no lot and nothing", use("fisch", "batch", 0, 0), api.ErrName},
		{"below 0", use("fish", "batch", -1, 100), api.ErrRange},
		{"least above most", use("fish", "batch", 91, 90), api.ErrRange},
		{"nothing", use("fish", "batch", 0, 0), api.ErrRange},
		{"more than there is", use("fish", "batch", 0, 121), api.ErrRange},
		{"into one of its tick", use("fish", "brine", 1, 1), api.ErrOrder},
		{"back", use("batch", "fish", 1, 1), api.ErrOrder},
		{"back and too much", use("batch", "fish", 1, 101), api.ErrRange},
		{"twice", use("brine", "batch", 1, 1), api.ErrDuplicate},
		{"too much in all", use("fish", "batch", 101, 101), api.ErrRange},
	})
	p := ran(t, summer)
	lots, uses := p.Graph()
	want := []api.Lot{{Name: "fish", At: 0, Size: 100}, {Name: "brine", At: 0, Size: 50}, {Name: "batch", At: 1, Size: 120}, {Name: "cans", At: 1, Size: 60}, {Name: "other", At: 1, Size: 10}, {Name: "tin", At: 2, Size: 60}}
	if !slices.Equal(lots, want) {
		t.Errorf("lots: %v", lots)
	}
	if !slices.Equal(uses, []api.Use{{From: "fish", To: "batch", Least: 90, Most: 100}, {From: "brine", To: "batch", Least: 20, Most: 30}, {From: "batch", To: "tin", Least: 50, Most: 60}}) {
		t.Errorf("uses: %v", uses)
	}
}

// Of 10.2: there may be 200 lots and 1,000 uses.
func TestLimitsOfTheGraph(t *testing.T) {
	var lots strings.Builder
	for i := range 100 {
		fmt.Fprintf(&lots, "lot a%d 10\n", i)
	}
	lots.WriteString("wait 1\n")
	for i := range 99 {
		fmt.Fprintf(&lots, "lot b%d 10\n", i)
	}
	try(t, setup(), lots.String(), []attempt{{"the 200th lot", lot("b99", 10), api.OK}})
	lots.WriteString("lot b99 10\n")
	try(t, setup(), lots.String(), []attempt{
		{"a lot too many", lot("c", 10), api.ErrLimit},
		{"a lot too many that is no name", lot("C", 10), api.ErrLimit},
	})
	for i := range 999 {
		fmt.Fprintf(&lots, "use a%d b%d 0 1\n", i%100, i/100)
	}
	try(t, setup(), lots.String(), []attempt{{"the 1,000th use", use("a99", "b9", 0, 1), api.OK}})
	lots.WriteString("use a99 b9 0 1\n")
	try(t, setup(), lots.String(), []attempt{
		{"a use too many", use("a0", "b90", 0, 1), api.ErrLimit},
		{"a use too many of no lot", use("x", "y", 0, 1), api.ErrLimit},
	})
}

// Of 10.2: Tear takes valid sheets in order.
func TestTear(t *testing.T) {
	with := func(head int, change func(x *api.Sheet)) api.Sheet {
		x := sheetOf(77, head)
		change(&x)
		return x
	}
	same := func(*api.Sheet) {}
	l := []attempt{
		{"a sheet", tear(with(3, same)), api.OK},
		{"of another tick", tear(with(3, func(x *api.Sheet) { x.Tick = -5 })), api.OK},
		{"of the last head", tear(with(12, same)), api.OK},
		{"of a head that the setup has not", tear(with(5, same)), api.OK},
		{"of no head", tear(with(0, same)), api.ErrInvalid},
		{"of a 13th head", tear(with(13, same)), api.ErrInvalid},
		{"of this head again", tear(with(2, same)), api.ErrInvalid},
		{"of a lesser head", tear(with(1, same)), api.ErrInvalid},
		{"bad", tear(with(3, func(x *api.Sheet) { x.Wrinkle = 100 })), api.OK},
		{"wrinkled too much", tear(with(3, func(x *api.Sheet) { x.Wrinkle = 101 })), api.ErrInvalid},
		{"below 0", tear(with(3, func(x *api.Sheet) { x.BodyHook = -1 })), api.ErrInvalid},
		{"of no plate", tear(with(3, func(x *api.Sheet) { x.EndPlate = 0 })), api.ErrInvalid},
	}
	try(t, setup(), "wait 9\ntear 2"+goodSeam+"\n", l)
	try(t, setup(), "wait 9\ntear 2"+goodSeam+"\nwait 1\n", []attempt{
		{"of this head later", tear(with(2, same)), api.OK},
		{"of a lesser head later", tear(with(1, same)), api.OK},
	})
	p := ran(t, "tear 2"+goodSeam+"\nwait 4\ntear 1"+goodSeam+"\n")
	p.Tear(with(2, func(x *api.Sheet) { x.Wrinkle = 31 }))
	bad := sheetOf(4, 2)
	bad.Wrinkle = 31
	if l := p.Sheets(); !slices.Equal(l, []api.Sheet{sheetOf(0, 2), sheetOf(4, 1), bad}) {
		t.Errorf("Sheets = %v", l)
	}
	if l := p.Lines(); l[3].Text != "tear 2"+badSeam {
		t.Errorf("lines: %v", l)
	}
}

// Of 10.2: there may be 500 sheets.
func TestLimitOfSheets(t *testing.T) {
	var script strings.Builder
	for i := range 499 {
		if i%12 == 0 {
			script.WriteString("wait 1\n")
		}
		fmt.Fprintf(&script, "tear %d%s\n", i%12+1, goodSeam)
	}
	try(t, setup(), script.String(), []attempt{{"the 500th", tear(sheetOf(0, 12)), api.OK}})
	try(t, setup(), script.String()+"wait 1\ntear 1"+goodSeam+"\n", []attempt{{"one too many", tear(sheetOf(0, 2)), api.ErrInvalid}})
}

// Of 10.2: Ship, Back and Scrap have the errors of their moves.
func TestMoves(t *testing.T) {
	try(t, setup(), summer, []attempt{
		{"ship out of range", ship(0, "joe"), api.ErrRange},
		{"ship far out of range", ship(1000001, "Joe"), api.ErrRange},
		{"ship to nobody", ship(2, ""), api.ErrInvalid},
		{"ship to no name", ship(99, "Joe"), api.ErrInvalid},
		{"ship what is not there", ship(99, "joe"), api.ErrName},
		{"ship what was destroyed", ship(5, "joe"), api.ErrName},
		{"ship what is shipped", ship(1, "joe"), api.ErrState},
		{"ship what is held", ship(6, "joe"), api.ErrHeld},
		{"back", back(1), api.OK},
		{"back out of range", back(-1), api.ErrRange},
		{"back what is not there", back(99), api.ErrName},
		{"back what is here", back(3), api.ErrState},
		{"scrap", scrap(3), api.OK},
		{"scrap what is held", scrap(6), api.OK},
		{"scrap out of range", scrap(math.MinInt), api.ErrRange},
		{"scrap what is not there", scrap(99), api.ErrName},
		{"scrap what is shipped", scrap(1), api.ErrState},
	})
	fresh := "lot a 10\n" + teardown + "cook peas a 1 100 20000 300\nwait 1\n" + teardown + "judge 1\n"
	try(t, setup(), fresh+"wait 98\n", []attempt{{"ship in time", ship(1, "joe"), api.OK}})
	try(t, setup(), fresh+"wait 99\n", []attempt{{"ship what has expired", ship(1, "joe"), api.ErrState}})
}

// Of 10.3: Moves has the moves of all commands, in order.
func TestLedger(t *testing.T) {
	p := ran(t, summer+"scrap 3\nback 1\n")
	want := "in 1 1 batch 100\nin 1 2 batch 90\nin 1 3 other 80\n" +
		"in 2 4 tin 70\nin 2 5 tin 60\ndestroy 2 5\nin 2 6 tin 50\n" +
		"free 4 1\nfree 4 2\nfree 4 3\nfree 4 4\nship 4 1 joe\nship 4 4 ann\n" +
		"ship 7 3 ann\nback 7 3\nhold 7 2\ndestroy 7 3\nback 7 1\n"
	if text := store.Format(p.Moves()); text != want {
		t.Errorf("moves:\n%s", text)
	}
}

// Of 10.2 and 10.3: a recall holds what is on hand of the lots that may hold the lot, and no other.
func TestRecall(t *testing.T) {
	p := ran(t, strings.TrimSuffix(summer, "recall brine\n"))
	lots, e := p.Recall("brine")
	if want := []string{"brine", "batch", "tin"}; e != api.OK || !slices.Equal(lots, want) || !slices.Equal(p.Recalled(), want) {
		t.Errorf("Recall = %v, %d, then Recalled = %v", lots, e, p.Recalled())
	}
	held := func(number int) bool {
		x, e := store.Pallet(100, p.Moves(), number)
		return e == api.OK && x.Held
	}
	// 1 and 4 are shipped, 3 is of another lot but came back.
	for number, want := range map[int]bool{1: false, 2: true, 3: true, 4: false, 6: true} {
		if held(number) != want {
			t.Errorf("held %d is not %v", number, want)
		}
	}
	try(t, setup(), summer, []attempt{
		{"a lot that is recalled", recall("batch"), api.OK},
		{"a lot that is not", recall("other"), api.OK},
		{"no lot", recall("fisch"), api.ErrName},
		{"no name", recall(""), api.ErrName},
	})
	moves := len(p.Moves())
	lots, e = p.Recall("batch")
	if e != api.OK || !slices.Equal(lots, []string{"batch", "tin"}) || len(p.Moves()) != moves {
		t.Errorf("Recall again = %v, %d, with %d moves", lots, e, len(p.Moves())-moves)
	}
	lots, e = p.Recall("fish")
	if e != api.OK || !slices.Equal(lots, []string{"fish", "batch", "tin"}) || !slices.Equal(p.Recalled(), []string{"fish", "brine", "batch", "tin"}) {
		t.Errorf("Recall = %v, %d, then Recalled = %v", lots, e, p.Recalled())
	}
}

// Of 10.2: lots that are added or used later are taken in only by another recall.
func TestLaterLots(t *testing.T) {
	p := ran(t, "lot fish 100\n"+teardown+"recall fish\nwait 1\nlot batch 90\nuse fish batch 1 90\ncook peas batch 1 100 20000 300\nwait 1\n"+teardown+"judge 1\n")
	if l := p.Recalled(); !slices.Equal(l, []string{"fish"}) {
		t.Errorf("Recalled = %v", l)
	}
	if lots, e := p.Recall("fish"); e != api.OK || !slices.Equal(lots, []string{"fish", "batch"}) {
		t.Errorf("Recall = %v, %d", lots, e)
	}
	if x, _ := store.Pallet(100, p.Moves(), 1); !x.Held {
		t.Error("the pallet is not held")
	}
	if e := p.Judge(1); e != api.ErrHeld {
		t.Errorf("Judge: %d", e)
	}
}

// Of 10.2: what a recall takes in is what trace.Forward tells.
func TestRecallIsForward(t *testing.T) {
	for _, name := range []string{"fish", "brine", "batch", "cans", "other", "tin"} {
		p := ran(t, summer)
		lots, uses := p.Graph()
		want, _ := trace.Forward(lots, uses, name)
		if got, e := p.Recall(name); e != api.OK || !slices.Equal(got, want) {
			t.Errorf("Recall of %s = %v, %d", name, got, e)
		}
	}
}

// Of 10.2: in a full book every command is ErrLimit, before all else.
func TestFullBook(t *testing.T) {
	t.Parallel()
	script := summer + "wait 1\n"
	full := script + strings.Repeat("wait 1\n", api.MaxLines-strings.Count(script, "\n"))
	short := strings.TrimSuffix(full, "wait 1\n")
	commands := func(want api.Errno) []attempt {
		return []attempt{
			{"wait", wait(1), want},
			{"lot", lot("new", 1), want},
			{"use", use("fish", "tin", 0, 1), want},
			{"tear", tear(sheetOf(0, 1)), want},
			{"cook", cook("peas", "other", 9, 1, 20000, 1), want},
			{"judge", judge(3), want},
			{"ship", ship(3, "joe"), want},
			{"back", back(1), want},
			{"scrap", scrap(2), want},
			{"recall", recall("other"), want},
		}
	}
	// All but ship, for what came back is held.
	try(t, setup(), short, slices.DeleteFunc(commands(api.OK), func(a attempt) bool { return a.name == "ship" }))
	try(t, setup(), full, commands(api.ErrLimit))
	try(t, setup(), full, []attempt{
		{"wait", wait(0), api.ErrLimit},
		{"lot", lot("", 0), api.ErrLimit},
		{"use", use("", "", 0, 0), api.ErrLimit},
		{"tear", tear(api.Sheet{}), api.ErrLimit},
		{"cook", cook("", "", 0, 0, 0, 0), api.ErrLimit},
		{"judge", judge(0), api.ErrLimit},
		{"ship", ship(0, ""), api.ErrLimit},
		{"back", back(0), api.ErrLimit},
		{"scrap", scrap(0), api.ErrLimit},
		{"recall", recall(""), api.ErrLimit},
	})
	p := ran(t, full)
	if out := plant.Do(p, "wait 1\nwait 0\nnow\nwait x\naccount other\n"); out != fmt.Sprintf("error 4\nerror 4\n%d\nerror 14\n80 80 0 0 0\n", p.Now()) {
		t.Errorf("prints %q", out)
	}
	q, e := plant.Read(setup(), p.Bytes())
	if e != api.OK || !plant.Same(p, q) {
		t.Errorf("Read: %d", e)
	}
}
