package plant_test

import (
	"math"
	"math/rand/v2"
	"slices"
	"strings"
	"testing"

	"cannery/api"
	"cannery/plant"
	"cannery/process"
	"cannery/retort"
	"cannery/seam"
	"cannery/store"
	"cannery/trace"
)

// seasons does random scripts line by line on plants, and calls look before and after each line.
func seasons(t *testing.T, seed uint64, n, lines int, look func(m *model, p *plant.Plant, line string, do func() string)) {
	t.Helper()
	r := rand.New(rand.NewPCG(10, seed))
	for range n {
		m, script, _ := season(r, lines)
		p := opened(t, m.setup)
		for _, line := range script {
			look(m, p, line, func() string { return plant.Do(p, line+"\n") })
		}
	}
}

// calls are commands and questions with wild arguments.
func calls(p *plant.Plant) map[string]func() (zero bool, e api.Errno) {
	of := func(e api.Errno) func() (bool, api.Errno) { return func() (bool, api.Errno) { return true, e } }
	x, cooked := p.Cook("peas", "a", 1, 1, 20000, 1, []api.Fault{{From: 1, To: 2, Most: 3}})
	lots, recalled := p.Recall("a")
	record, number := p.Record(1)
	return map[string]func() (bool, api.Errno){
		"Wait":   of(p.Wait(1)),
		"Lot":    of(p.Lot("a", 1)),
		"Use":    of(p.Use("a", "b", 0, 1)),
		"Tear":   of(p.Tear(sheetOf(0, 1))),
		"Cook":   func() (bool, api.Errno) { return x == api.Entry{}, cooked },
		"Judge":  of(p.Judge(1)),
		"Ship":   of(p.Ship(1, "joe")),
		"Back":   of(p.Back(1)),
		"Scrap":  of(p.Scrap(1)),
		"Recall": func() (bool, api.Errno) { return len(lots) == 0, recalled },
		"Record": func() (bool, api.Errno) { return len(record) == 0, number },
	}
}

// Of 10.5 and the chapter's details: the methods of a nil plant, and of one that New did not make.
func TestNoPlants(t *testing.T) {
	for name, p := range map[string]*plant.Plant{"nil": nil, "unmade": new(plant.Plant)} {
		for call, f := range calls(p) {
			if zero, e := f(); !zero || e != api.ErrInvalid {
				t.Errorf("%s: %s: %v, %d", name, call, zero, e)
			}
		}
		lots, uses := p.Graph()
		if n := p.Now() + len(p.Entries()) + len(p.Sheets()) + len(lots) + len(uses) + len(p.Moves()) + len(p.Recalled()) + len(p.Lines()) + len(p.Bytes()); n != 0 {
			t.Errorf("%s has %s", name, told(p))
		}
		if out := plant.Do(p, "wait 1\nnow\n"); out != "error 1\n" {
			t.Errorf("%s: Do prints %q", name, out)
		}
	}
}

// Of P10.1: no argument makes a call panic, and two plants that are asked the same answer the same.
func TestExtremes(t *testing.T) {
	t.Parallel()
	numbers := []int{math.MinInt, -1 << 40, -1, 0, 1, 2, 500, 1 << 40, math.MaxInt}
	names := []string{"", "fish", "none", "A", "\x00", "ü", "a b", "a\nb", strings.Repeat("a", 1<<16)}
	r := rand.New(rand.NewPCG(10, 2))
	p, q := ran(t, summer), ran(t, summer)
	number := func() int { return pick(r, numbers...) }
	name := func() string { return pick(r, names...) }
	for range 3000 {
		a, b, c, d, s, u := number(), number(), number(), number(), name(), name()
		x := api.Sheet{Tick: a, Head: b, BodyHook: c, CoverHook: d, Height: number(), EndPlate: number(), BodyPlate: number(), Wrinkle: number(), Thickness: number(), Countersink: number()}
		faults := slices.Repeat([]api.Fault{{From: a, To: b, Most: c}}, r.IntN(20))
		initial := pick(r, 20000, a)
		kind := r.IntN(11)
		do := func(p *plant.Plant) (any, api.Errno) {
			switch kind {
			case 0:
				return nil, p.Wait(a)
			case 1:
				return nil, p.Lot(s, a)
			case 2:
				return nil, p.Use(s, u, a, b)
			case 3:
				return nil, p.Tear(x)
			case 4:
				return valueOf(p.Cook("peas", "fish", a, b, initial, c, faults))
			case 5:
				return valueOf(p.Cook(s, u, a, b, c, d, faults))
			case 6:
				return nil, p.Judge(a)
			case 7:
				return nil, p.Ship(a, s)
			case 8:
				return nil, max(p.Back(a), p.Scrap(a))
			case 9:
				lots, e := p.Recall(s)
				return strings.Join(lots, " "), e
			}
			_, e := p.Record(a)
			return nil, e
		}
		before := told(p)
		got, e := do(p)
		again, e2 := do(q)
		if got != again || e != e2 {
			t.Fatalf("%d: %v, %d, but then %v, %d", kind, got, e, again, e2)
		}
		if e != api.OK && kind != 8 && told(p) != before {
			t.Fatalf("%d: fails with %d, but changes the plant", kind, e)
		}
	}
	if !plant.Same(p, q) {
		t.Error("the plants differ")
	}
	if back, e := plant.Read(setup(), p.Bytes()); e != api.OK || !plant.Same(p, back) {
		t.Errorf("Read: %d", e)
	}
}

func valueOf(x api.Entry, e api.Errno) (any, api.Errno) { return x, e }

// Of P10.1: neither arguments nor results are the plant's own memory.
func TestMemory(t *testing.T) {
	p := ran(t, "lot fish 10\nlot a 10\nwait 1\nlot b 10\nuse fish b 1 2\n"+teardown)
	faults := []api.Fault{{From: 65, To: 70, Most: 118000}, {From: 1, To: 2, Most: 7}, {From: 3, To: 4, Most: 5}}
	kept := slices.Clone(faults)
	if _, e := p.Cook("peas", "b", 1, 5, 20000, 300, faults[:2]); e != api.OK || !slices.Equal(faults, kept) {
		t.Fatalf("Cook: %d, the faults are %v", e, faults)
	}
	clear(faults)
	hit, _ := p.Recall("fish")
	bytes := p.Bytes()
	q, e := plant.Read(setup(), bytes)
	if e != api.OK || string(bytes) != string(p.Bytes()) {
		t.Fatalf("Read: %d", e)
	}
	before := told(p)
	spoil(hit)
	spoil(bytes)
	for _, x := range []*plant.Plant{p, q} {
		lots, uses := x.Graph()
		record, _ := x.Record(1)
		spoil(lots)
		spoil(uses)
		spoil(record)
		spoil(x.Entries())
		spoil(x.Sheets())
		spoil(x.Moves())
		spoil(x.Recalled())
		spoil(x.Lines())
		spoil(x.Bytes())
	}
	if told(p) != before || told(q) != before || !plant.Same(p, q) {
		t.Error("the plant has changed")
	}
}

// spoil changes what a slice has, and what lies behind it.
func spoil[T any](l []T) { clear(l[:cap(l)]) }

// Of P10.6: what a plant does is not seen by a copy of it, nor by a plant that was read from its book.
func TestCopies(t *testing.T) {
	p := ran(t, summer)
	before := told(p)
	q := *p
	other, _ := plant.Read(setup(), p.Bytes())
	for i, x := range []*plant.Plant{&q, other, p} {
		if told(x) != before {
			t.Errorf("plant %d has changed", i)
		}
		run(t, x, "lot "+string(rune('p'+i))+" 9\n"+"use brine cans 0 "+string(rune('1'+i))+"\nwait 1\n"+teardown+"judge 3\nscrap 3\nback 1\nrecall cans\ncook beans other 7 1 0 0\n")
	}
	if out := plant.Do(p, "find p\nfind q\nfind r\n"); out != "error 5\nerror 5\n\n" {
		t.Errorf("prints %q", out)
	}
}

// Of P10.2 and P12: a pallet is shipped only if its load was released, and its seams were safe and its lot not recalled when it was freed.
func TestNeverShipped(t *testing.T) {
	t.Parallel()
	shipped := 0
	freed := make(map[int]bool) // the pallets that were rightly freed, by their numbers
	seasons(t, 3, 25, 200, func(m *model, p *plant.Plant, line string, do func() string) {
		if len(p.Lines()) == 0 {
			clear(freed)
		}
		sheets, recalled, moves := p.Sheets(), p.Recalled(), len(p.Moves())
		do()
		for _, x := range p.Moves()[moves:] {
			i := slices.Index(m.pallets, x.Pallet)
			switch x.Kind {
			case api.MFree:
				entry := p.Entries()[i]
				safe, e := seam.Safe(m.setup.Norm, sheets, m.setup.Heads, m.cookedAt[i])
				freed[x.Pallet] = entry.Verdict == api.VReleased && e == api.OK && safe && !slices.Contains(recalled, entry.Lot)
			case api.MHold, api.MBack:
				freed[x.Pallet] = false
			case api.MShip:
				shipped++
				if !freed[x.Pallet] {
					t.Fatalf("%s ships what was not rightly freed", line)
				}
			}
		}
	})
	if shipped < 50 {
		t.Errorf("only %d pallets were shipped", shipped)
	}
}

// Of P10.3: for each pallet that a customer has, the customer is found for just the lots that may be in it.
func TestBothWays(t *testing.T) {
	t.Parallel()
	found := 0
	seasons(t, 4, 15, 150, func(m *model, p *plant.Plant, line string, do func() string) {
		do()
		if !strings.HasPrefix(line, "ship") && !strings.HasPrefix(line, "use") {
			return
		}
		lots, uses := p.Graph()
		there, _ := store.Pallets(m.setup.Life, p.Moves())
		told := make(map[string]map[string]bool) // for each lot the customers
		for _, x := range lots {
			told[x.Name] = make(map[string]bool)
			for _, word := range strings.Fields(plant.Do(p, "find "+x.Name)) {
				customer, _, _ := strings.Cut(word, ":")
				told[x.Name][customer] = true
			}
		}
		for _, x := range there {
			if x.Where == "" {
				continue
			}
			behind, e := trace.Backward(lots, uses, x.Lot)
			if e != api.OK {
				t.Fatalf("Backward of %s: %d", x.Lot, e)
			}
			for _, lot := range behind {
				found++
				if !told[lot][x.Where] {
					t.Fatalf("%s has pallet %d, but find %s does not tell it", x.Where, x.Number, lot)
				}
			}
		}
		for lot, customers := range told {
			for customer := range customers {
				if !slices.ContainsFunc(there, func(x api.Pallet) bool {
					behind, _ := trace.Backward(lots, uses, x.Lot)
					return x.Where == customer && slices.Contains(behind, lot)
				}) {
					t.Fatalf("find %s tells %s, who has nothing of it", lot, customer)
				}
			}
		}
	})
	if found < 200 {
		t.Errorf("only %d were found", found)
	}
}

// Of P10.4 and P4: what is released is proved by its record.
func TestProved(t *testing.T) {
	t.Parallel()
	released := make(map[bool]int) // with deviations, or without
	seasons(t, 5, 25, 120, func(m *model, p *plant.Plant, line string, do func() string) {
		before := len(p.Entries())
		do()
		for _, x := range p.Entries()[before:] {
			record, e := p.Record(x.Number)
			if e != api.OK {
				t.Fatalf("Record of %d: %d", x.Number, e)
			}
			c := m.setup
			initial := numberAfter(line, 5)
			_, f, _ := process.Lethality(c.Can, c.Killer, initial, retort.Baths(record))
			if x.Reached != f*1000/(c.Killer.Goal*c.Killer.D*1000000) {
				t.Fatalf("%v has not reached what its record says", x)
			}
			if x.Verdict != api.VReleased {
				continue
			}
			which, _ := process.Lookup(c.Schedules, x.Product, initial, numberAfter(line, 6))
			s := c.Schedules[which]
			program := []api.Step{{Kind: api.KVent, Set: c.Vent, Ticks: c.VentTicks}, {Kind: api.KUp, Set: s.Temp}, {Kind: api.KCook, Set: s.Temp, Ticks: s.Ticks}, {Kind: api.KCool, Set: c.Cold, Ticks: c.Cooling}}
			vented, e := retort.Vented(program, record)
			if e != api.OK || !vented || !retort.Whole(program, record) {
				t.Fatalf("%v is not whole and vented", x)
			}
			deviations, _ := retort.Deviations(program, record)
			released[len(deviations) > 0]++
			if sterile, _ := process.Sterile(c.Can, c.Killer, initial, retort.Baths(record)); len(deviations) > 0 && !sterile {
				t.Fatalf("%v is not sterile", x)
			}
		}
	})
	if released[true] < 10 || released[false] < 50 {
		t.Errorf("released: %v", released)
	}
}

// numberAfter is the number behind some words of a line.
func numberAfter(line string, words int) int {
	n := 0
	for _, digit := range strings.Fields(line)[words] {
		n = 10*n + int(digit-'0')
	}
	return n
}

// Of P10.5, P10.6, P11 and P12: after each line the book makes the plant again; a line that fails changes nothing.
func TestBooksOfSeasons(t *testing.T) {
	t.Parallel()
	lines := 0
	seasons(t, 6, 6, 60, func(m *model, p *plant.Plant, line string, do func() string) {
		before := told(p)
		out := do()
		if (strings.HasPrefix(out, "error") || len(p.Lines()) == lines) && told(p) != before {
			t.Fatalf("%s changes the plant, but prints %s", line, out)
		}
		lines = len(p.Lines())
		q, e := plant.Read(m.setup, p.Bytes())
		if e != api.OK || !plant.Same(p, q) || told(p) != told(q) {
			t.Fatalf("Read behind %s: %d", line, e)
		}
	})
}

// Of P10.7 and P10: the accounts balance, by the moves themselves.
func TestBalance(t *testing.T) {
	t.Parallel()
	seasons(t, 7, 20, 200, func(m *model, p *plant.Plant, line string, do func() string) {
		do()
		moves := p.Moves()
		want := make(map[string]api.Account)
		lotOf, cansOf := make(map[int]string), make(map[int]int)
		for _, x := range moves {
			if x.Kind == api.MIn {
				lotOf[x.Pallet], cansOf[x.Pallet] = x.Where, x.Cans
			}
			a, cans := want[lotOf[x.Pallet]], cansOf[x.Pallet]
			switch x.Kind {
			case api.MIn:
				a.Made, a.OnHand = a.Made+cans, a.OnHand+cans
			case api.MShip:
				a.OnHand, a.Shipped = a.OnHand-cans, a.Shipped+cans
			case api.MBack:
				a.OnHand, a.Shipped = a.OnHand+cans, a.Shipped-cans
			case api.MDestroy:
				a.OnHand, a.Destroyed = a.OnHand-cans, a.Destroyed+cans
			}
			want[lotOf[x.Pallet]] = a
		}
		if i, e := store.Check(m.setup.Life, moves); i != -1 || e != api.OK {
			t.Fatalf("behind %s the ledger fails at %d with %d", line, i, e)
		}
		lots, _ := p.Graph()
		for _, x := range lots {
			a, e := store.Account(m.setup.Life, moves, x.Name)
			if e != api.OK || a != want[x.Name] || a.Made != a.OnHand+a.Shipped+a.Destroyed+a.Samples {
				t.Fatalf("behind %s the account of %s is %v", line, x.Name, a)
			}
		}
	})
}
