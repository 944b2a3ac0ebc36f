package plant_test

import (
	"fmt"
	"math/rand/v2"
	"regexp"
	"slices"
	"strconv"
	"strings"
	"testing"

	"cannery/api"
	"cannery/lethal"
	"cannery/plant"
	"cannery/process"
	"cannery/retort"
	"cannery/seam"
	"cannery/store"
	"cannery/trace"
)

// model is a plant that follows the chapter's sentences one by one.
type model struct {
	setup    plant.Setup
	tick     int
	sheets   []api.Sheet
	lots     []api.Lot
	uses     []api.Use
	moves    []api.Move
	entries  []api.Entry
	records  [][]api.Reading
	pallets  []int // of the entries
	cookedAt []int
	recalled []string
	lines    []api.Line
}

// forms are those of all lines, with W for a word, N for a number and F for any faults.
var forms = []string{
	"wait N", "lot W N", "use W W N N", "tear N N N N N N N N N", "cook W W N N N NF", "judge N", "ship N W", "back N", "scrap N", "recall W",
	"account W", "find W", "safe N", "now",
}

// patterns are the forms as regular expressions.
func patterns() map[string]*regexp.Regexp {
	const number = `(-?[1-9][0-9]*|0)`
	replacer := strings.NewReplacer("W", `([^ ]+)`, "N", number, "F", `((?: (?:-?[1-9][0-9]*|0):(?:-?[1-9][0-9]*|0):(?:-?[1-9][0-9]*|0))*)`)
	m := make(map[string]*regexp.Regexp)
	for _, form := range forms {
		word, _, _ := strings.Cut(form, " ")
		m[word] = regexp.MustCompile("^" + replacer.Replace(form) + "$")
	}
	return m
}

var pattern = patterns()

// line does a line of a script and returns what it prints.
func (m *model) line(s string) string {
	if s == "" {
		return ""
	}
	word, _, _ := strings.Cut(s, " ")
	p := pattern[word]
	if p == nil || !p.MatchString(s) {
		return "error 14\n"
	}
	var w []string // its words
	var n []int    // its numbers
	for _, x := range p.FindStringSubmatch(s)[1:] {
		if i, err := strconv.Atoi(x); err == nil {
			n = append(n, i)
		}
		w = append(w, x)
	}
	if slices.Contains([]string{"account", "find", "safe", "now"}, word) {
		return m.question(word, w)
	}
	if len(m.lines) == 2000 {
		return "error 4\n"
	}
	c := *m // what is done, unless there is an error
	c.recalled = slices.Clone(m.recalled)
	out, e := c.command(word, w, n)
	if e != 0 {
		return fmt.Sprintf("error %d\n", e)
	}
	sum := uint64(0)
	if len(m.lines) > 0 {
		sum = m.lines[len(m.lines)-1].Sum
	}
	sum = sumOf(sum, len(m.lines), c.tick, s)
	c.lines = append(c.lines, api.Line{Number: len(m.lines), Tick: c.tick, Text: s, Sum: sum})
	*m = c
	return out + "\n"
}

func (m *model) question(word string, w []string) string {
	switch word {
	case "now":
		return fmt.Sprintln(m.tick)
	case "safe":
		t, _ := strconv.Atoi(w[0])
		safe, e := seam.Safe(m.setup.Norm, m.sheets, m.setup.Heads, t)
		if t < 0 || t > 100000000 {
			return fmt.Sprintf("error %d\n", e)
		}
		return map[bool]string{true: "yes\n", false: "no\n"}[safe]
	case "account":
		a, _ := store.Account(m.setup.Life, m.moves, w[0])
		return fmt.Sprintln(a.Made, a.OnHand, a.Shipped, a.Destroyed, a.Samples)
	}
	if trace.Lot(m.lots, w[0]) < 0 {
		return "error 5\n"
	}
	cans := make(map[string]int)
	there, _ := store.Pallets(m.setup.Life, m.moves)
	for _, p := range there {
		if p.Where != "" && m.holds(p.Lot, w[0]) {
			cans[p.Where] += p.Cans
		}
	}
	var found []string
	for customer, n := range cans {
		found = append(found, fmt.Sprintf("%s:%d", customer, n))
	}
	slices.SortFunc(found, func(a, b string) int {
		return strings.Compare(a[:strings.Index(a, ":")], b[:strings.Index(b, ":")])
	})
	return strings.Join(found, " ") + "\n"
}

// holds reports whether a lot may hold another one: by the uses into it.
func (m *model) holds(lot, other string) bool {
	return lot == other || slices.ContainsFunc(m.uses, func(u api.Use) bool { return u.To == lot && m.holds(u.From, other) })
}

func (m *model) add(x api.Move) api.Errno {
	x.At = m.tick
	l, e := store.Add(m.setup.Life, m.moves, x)
	m.moves = l
	return e
}

// command changes the model, or has an error.
func (m *model) command(word string, w []string, n []int) (string, api.Errno) {
	switch word {
	case "wait":
		if n[0] < 1 || n[0] > 1000000000 || n[0] > 100000000-m.tick {
			return "", 7
		}
		m.tick += n[0]
	case "lot":
		m.lots = append(slices.Clone(m.lots), api.Lot{Name: w[0], At: m.tick, Size: n[len(n)-1]})
		return "ok", trace.Check(m.lots, m.uses)
	case "use":
		m.uses = append(slices.Clone(m.uses), api.Use{From: w[0], To: w[1], Least: n[len(n)-2], Most: n[len(n)-1]})
		return "ok", trace.Check(m.lots, m.uses)
	case "tear":
		m.sheets = append(slices.Clone(m.sheets), api.Sheet{Tick: m.tick, Head: n[0], BodyHook: n[1], CoverHook: n[2], Height: n[3], EndPlate: n[4], BodyPlate: n[5], Wrinkle: n[6], Thickness: n[7], Countersink: n[8]})
		if !seam.ValidSheets(m.sheets) {
			return "", 1
		}
	case "cook":
		return m.cook(w)
	case "judge":
		return "ok", m.judge(n[0])
	case "ship":
		return "ok", m.add(api.Move{Pallet: n[0], Kind: api.MShip, Where: w[1]})
	case "back":
		return "ok", m.add(api.Move{Pallet: n[0], Kind: api.MBack})
	case "scrap":
		return "ok", m.add(api.Move{Pallet: n[0], Kind: api.MDestroy})
	case "recall":
		return m.recall(w[0])
	}
	return "ok", 0
}

func (m *model) recall(lot string) (string, api.Errno) {
	if trace.Lot(m.lots, lot) < 0 {
		return "", 5
	}
	out := "ok"
	for _, x := range m.lots {
		if m.holds(x.Name, lot) {
			out += " " + x.Name
			if !slices.Contains(m.recalled, x.Name) {
				m.recalled = append(m.recalled, x.Name)
			}
		}
	}
	there, _ := store.Pallets(m.setup.Life, m.moves)
	for _, p := range there {
		if p.Where == "" && !p.Held && m.holds(p.Lot, lot) {
			if e := m.add(api.Move{Pallet: p.Number, Kind: api.MHold}); e != 0 {
				return "", e
			}
		}
	}
	return out, 0
}

func (m *model) judge(number int) api.Errno {
	if number < 1 || number > len(m.entries) {
		return 5
	}
	x := m.entries[number-1]
	p, e := store.Pallet(m.setup.Life, m.moves, m.pallets[number-1])
	if x.Verdict != api.VReleased || e != 0 || p.Where != "" || !p.Held {
		return 10
	}
	if safe, _ := seam.Safe(m.setup.Norm, m.sheets, m.setup.Heads, m.cookedAt[number-1]); !safe || slices.Contains(m.recalled, x.Lot) {
		return 11
	}
	return m.add(api.Move{Pallet: p.Number, Kind: api.MFree})
}

func faultsOf(s string) []api.Fault {
	var l []api.Fault
	for _, word := range strings.Fields(s) {
		var f api.Fault
		fmt.Sscanf(word, "%d:%d:%d", &f.From, &f.To, &f.Most)
		l = append(l, f)
	}
	return l
}

func (m *model) cook(w []string) (string, api.Errno) {
	product, lot := w[0], w[1]
	pallet, _ := strconv.Atoi(w[2])
	cans, _ := strconv.Atoi(w[3])
	initial, _ := strconv.Atoi(w[4])
	fill, _ := strconv.Atoi(w[5])
	faults := faultsOf(w[6])
	switch {
	case !lethal.Name(product):
		return "", 1
	case trace.Lot(m.lots, lot) < 0:
		return "", 5
	case !retort.ValidFaults(faults):
		return "", 1
	case initial < -50000 || initial > 200000 || fill < 0 || fill > 1000000:
		return "", 7
	}
	var fit []api.Schedule
	known := false
	for _, s := range m.setup.Schedules {
		known = known || s.Product == product
		if s.Product == product && s.Initial <= initial && fill <= s.Fill {
			fit = append(fit, s)
		}
	}
	switch {
	case !known:
		return "", 5
	case len(fit) == 0:
		return "", 8
	}
	slices.SortStableFunc(fit, func(a, b api.Schedule) int { return a.Ticks - b.Ticks })
	x := m.setup
	program, e := process.Program(fit[0], x.Vent, x.VentTicks, x.Cold, x.Cooling)
	if e != 0 {
		return "", e
	}
	_, record, e := retort.Run(x.Vessel, program, faults, api.Load{Temp: x.Cold, Air: 1000})
	if e != 0 {
		return "", e
	}
	if e := m.add(api.Move{Pallet: pallet, Kind: api.MIn, Where: lot, Cans: cans}); e != 0 {
		return "", e
	}
	verdict, _ := process.Judge(fit[0], program, record, initial, fill, x.Can, x.Killer, x.Spoiler)
	_, f, _ := process.Lethality(x.Can, x.Killer, initial, retort.Baths(record))
	number := len(m.entries) + 1
	reached := f * 1000 / (x.Killer.D * 1000000 * x.Killer.Goal)
	m.entries = append(slices.Clone(m.entries), api.Entry{Number: number, Product: product, Lot: lot, Code: fmt.Sprintf("%s-%d", product, number), Verdict: verdict, Reached: reached})
	m.records = append(slices.Clone(m.records), record)
	m.pallets = append(slices.Clone(m.pallets), pallet)
	m.cookedAt = append(slices.Clone(m.cookedAt), m.tick)
	if verdict == api.VDestroyed {
		if e := m.add(api.Move{Pallet: pallet, Kind: api.MDestroy}); e != 0 {
			return "", e
		}
	}
	return fmt.Sprintf("%s %d", []string{"", "released", "held", "again", "destroyed"}[verdict], reached), 0
}

// told is what told tells of a plant like this.
func (m *model) told() string {
	var recalled []string
	for _, x := range m.lots {
		if slices.Contains(m.recalled, x.Name) {
			recalled = append(recalled, x.Name)
		}
	}
	var b strings.Builder
	for _, x := range m.lines {
		fmt.Fprintf(&b, "%d %d %d %s\n", x.Number, x.Tick, x.Sum, x.Text)
	}
	return fmt.Sprintf("%d\n%v\n%v\n%v\n%v\n%v\n%v\n%v\n%v\n%s", m.tick, m.entries, m.records, m.sheets, m.lots, m.uses, m.moves, recalled, m.lines, b.String())
}

func pick[T any](r *rand.Rand, l ...T) T { return l[r.IntN(len(l))] }

// some returns one of the usual things, or now and then an odd one.
func some[T any](r *rand.Rand, usual []T, odd ...T) T {
	if len(usual) == 0 || r.IntN(15) == 0 {
		return pick(r, odd...)
	}
	return pick(r, usual...)
}

// palletsThat returns the numbers of the pallets that fit.
func (m *model) palletsThat(fit func(p api.Pallet) bool) []int {
	var l []int
	there, _ := store.Pallets(m.setup.Life, m.moves)
	for _, p := range there {
		if fit(p) {
			l = append(l, p.Number)
		}
	}
	return l
}

func randomUse(r *rand.Rand, m *model) string {
	from, to := "none", "none"
	for range 4 {
		a, b := some(r, m.lots, api.Lot{Name: "none"}), some(r, m.lots, api.Lot{Name: "None"})
		from, to = a.Name, b.Name
		if a.At < b.At {
			break
		}
	}
	least := r.IntN(6)
	return fmt.Sprint("use ", from, " ", to, " ", least, " ", least+some(r, []int{1, 2, 5}, 0, -1, 200))
}

func randomCook(r *rand.Rand, m *model) string {
	return fmt.Sprint("cook ", some(r, []string{"peas", "peas", "beans"}, "stone", "corn", "Peas"), " ", some(r, m.lots, api.Lot{Name: "none"}).Name, " ",
		some(r, []int{1 + r.IntN(100)}, 0, 1000001), " ", some(r, []int{1, 10, 99}, 0, 1000001), " ", some(r, []int{20000, 30000, 60000}, 19999, 200001), " ",
		some(r, []int{300, 300, 0}, 301, -1), some(r, []string{"", "", mild, medium, strong}, " 5:4:3", " 0:100000000:0"))
}

// randomJudge is a line for an entry: mostly for one that was released and whose pallet is held.
func randomJudge(r *rand.Rand, m *model) string {
	held := m.palletsThat(func(p api.Pallet) bool { return p.Where == "" && p.Held })
	var l []int
	for i, x := range m.entries {
		if x.Verdict == api.VReleased && slices.Contains(held, m.pallets[i]) {
			l = append(l, x.Number)
		}
	}
	return fmt.Sprint("judge ", some(r, l, r.IntN(len(m.entries)+2)))
}

// randomMove is a line for a pallet: mostly for one for which it can be done.
func randomMove(r *rand.Rand, m *model) string {
	free := m.palletsThat(func(p api.Pallet) bool { return p.Where == "" && !p.Held })
	held := m.palletsThat(func(p api.Pallet) bool { return p.Where == "" && p.Held })
	out := m.palletsThat(func(p api.Pallet) bool { return p.Where != "" })
	any := 1 + r.IntN(100)
	switch r.IntN(9) {
	case 0, 1, 2, 3, 4, 5:
		return fmt.Sprint("ship ", some(r, free, append(held, append(out, any, 0)...)...), " ", some(r, []string{"joe", "ann", "eve"}, "Joe"))
	case 6, 7:
		return fmt.Sprint("back ", some(r, out, append(held, any, 0)...))
	}
	return fmt.Sprint("scrap ", some(r, append(held, free...), append(out, any, 0)...))
}

// randomLine is a line of a script; most of them can be done.
func randomLine(r *rand.Rand, m *model) string {
	name := some(r, m.lots, api.Lot{Name: "none"}).Name
	switch r.IntN(30) {
	case 0, 1, 2:
		return fmt.Sprint("wait ", some(r, []int{1, 2, 3}, 0, -1, 100000000, 1000000001))
	case 3, 4:
		return fmt.Sprint("lot ", some(r, []string{fmt.Sprint("a", r.IntN(99))}, "a", "A"), " ", some(r, []int{10, 50, 100}, 0, -1))
	case 5, 6, 7:
		return randomUse(r, m)
	case 8, 9, 10, 11:
		return "wait 1\ntear 1" + goodSeam + "\ntear 2" + goodSeam
	case 12:
		return fmt.Sprint("tear ", pick(r, 1, 2, 3, 0), pick(r, goodSeam, badSeam, badSeam, " 1 2 3 0 5 6 7 8"))
	case 13, 14, 15, 16:
		return randomCook(r, m)
	case 17, 18, 19, 20:
		return randomJudge(r, m)
	case 21, 22, 23, 24, 25:
		return randomMove(r, m)
	case 26:
		return some(r, []string{"", "now", "find " + name, "account " + name}, "recall "+name)
	case 27:
		return fmt.Sprint(pick(r, "find ", "find ", "account "), name)
	case 28:
		return fmt.Sprint("safe ", r.IntN(m.tick+3)-1)
	}
	return pick(r, "recall "+name, "recall "+name, "x", "now ", "judge", "judge 1 1", "wait  1", "wait 01")
}

// season is a random setup with one or two heads, and a random script for it with what its lines print.
func season(r *rand.Rand, lines int) (m *model, script, prints []string) {
	x := setup()
	x.Heads = pick(r, 1, 2)
	x.Life = pick(r, 10, 40, 1000)
	m = &model{setup: x}
	for len(script) < lines {
		for _, line := range strings.Split(randomLine(r, m), "\n") {
			script, prints = append(script, line), append(prints, m.line(line))
		}
	}
	return m, script, prints
}

// Of 10.2, 10.3 and 10.5: random scripts print what a model prints that follows the chapter, and make what it makes.
func TestModel(t *testing.T) {
	t.Parallel()
	r := rand.New(rand.NewPCG(10, 1))
	seen := make(map[string]int)
	for range 25 {
		m, script, prints := season(r, 150)
		p := opened(t, m.setup)
		for i, line := range script {
			if out := plant.Do(p, line+"\n"); out != prints[i] {
				t.Fatalf("%s\nprints %q, not %q", strings.Join(script[:i+1], "\n"), out, prints[i])
			}
			if word, _, _ := strings.Cut(line, " "); !strings.HasPrefix(prints[i], "error") {
				seen[word]++
				out, _, _ := strings.Cut(prints[i], " ")
				seen[out]++
			}
		}
		if told(p) != m.told() {
			t.Fatalf("%s\nmakes %s\nnot %s", strings.Join(script, "\n"), told(p), m.told())
		}
		if out := plant.Do(opened(t, m.setup), strings.Join(script, "\n")+"\n"); out != strings.Join(prints, "") {
			t.Fatalf("as one script it prints %s", out)
		}
	}
	for _, want := range []string{"wait", "lot", "use", "tear", "released", "again", "destroyed", "judge", "ship", "back", "scrap", "recall", "find", "account", "safe"} {
		if seen[want] < 10 {
			t.Errorf("%s is done only %d times", want, seen[want])
		}
	}
}
