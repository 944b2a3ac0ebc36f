package plant

import (
	"slices"
	"strconv"

	"cannery/api"
	"cannery/seam"
	"cannery/trace"
)

// command is what changes a plant.
type command interface {
	text() string
	// do changes a state. If it fails, it panics with a failure and may leave the state half changed.
	do(s *state)
}

// failure is the error with which a command fails.
type failure api.Errno

// check leaves the command if there is an error.
func check(e api.Errno) {
	if e != api.OK {
		panic(failure(e))
	}
}

// need leaves the command with an error if something does not hold.
func need(ok bool, e api.Errno) {
	if !ok {
		check(e)
	}
}

// take does a command and writes its line. If it fails, the plant stays as it is.
func (p *Plant) take(c command) (e api.Errno) {
	if p.missing() {
		return api.ErrInvalid
	}
	defer func() {
		if left, ok := recover().(failure); ok {
			e = api.Errno(left)
		}
	}()
	next := p.state // a copy, that is dropped if the command fails
	need(len(next.lines) < api.MaxLines, api.ErrLimit)
	c.do(&next)
	next.write(c.text())
	p.state = next
	return api.OK
}

// Wait lets ticks pass.
func (p *Plant) Wait(n int) api.Errno { return p.take(waiting{n}) }

// Lot adds a lot that was made or bought now.
func (p *Plant) Lot(name string, size int) api.Errno { return p.take(adding{name, size}) }

// Use tells that something of a lot went into another one.
func (p *Plant) Use(from, to string, least, most int) api.Errno {
	return p.take(using{api.Use{From: from, To: to, Least: least, Most: most}})
}

// Tear adds the sheet of a teardown that was made now.
func (p *Plant) Tear(x api.Sheet) api.Errno { return p.take(tearing{x}) }

// Cook cooks a load of cans of a lot, judges it, and brings it into the warehouse as a pallet.
func (p *Plant) Cook(product, lot string, pallet, cans, initial, fill int, l []api.Fault) (api.Entry, api.Errno) {
	if e := p.take(cooking{product, lot, pallet, cans, initial, fill, slices.Clone(l)}); e != api.OK {
		return api.Entry{}, e
	}
	return p.state.latest(), api.OK
}

// Judge frees the pallet of an entry that was released, if its seams are safe and its lot is not recalled.
func (p *Plant) Judge(number int) api.Errno { return p.take(judging{number}) }

// Ship sends a pallet to a customer.
func (p *Plant) Ship(pallet int, customer string) api.Errno {
	return p.take(shipping{pallet, customer})
}

// Back takes a pallet back from its customer.
func (p *Plant) Back(pallet int) api.Errno { return p.take(returning{pallet}) }

// Scrap destroys a pallet.
func (p *Plant) Scrap(pallet int) api.Errno { return p.take(scrapping{pallet}) }

// Recall recalls all lots that may hold a lot, and returns them.
func (p *Plant) Recall(lot string) ([]string, api.Errno) {
	if e := p.take(recalling{lot}); e != api.OK {
		return nil, e
	}
	return p.state.holding(lot)
}

type waiting struct{ ticks int }

func (c waiting) text() string { return "wait" + numbers(c.ticks) }

func (c waiting) do(s *state) {
	need(within(c.ticks, 1, mostWait) && s.tick+c.ticks <= api.MaxTick, api.ErrRange)
	s.tick += c.ticks
}

type adding struct {
	name string
	size int
}

func (c adding) text() string { return "lot " + c.name + numbers(c.size) }

func (c adding) do(s *state) {
	s.lots = added(s.lots, api.Lot{Name: c.name, At: s.tick, Size: c.size})
	check(trace.Check(s.lots, s.uses))
}

type using struct{ use api.Use }

func (c using) text() string {
	return "use " + c.use.From + " " + c.use.To + numbers(c.use.Least, c.use.Most)
}

func (c using) do(s *state) {
	s.uses = added(s.uses, c.use)
	check(trace.Check(s.lots, s.uses))
}

type tearing struct{ sheet api.Sheet }

func (c tearing) text() string {
	x := c.sheet
	return "tear" + numbers(x.Head, x.BodyHook, x.CoverHook, x.Height, x.EndPlate, x.BodyPlate, x.Wrinkle, x.Thickness, x.Countersink)
}

func (c tearing) do(s *state) {
	x := c.sheet
	x.Tick = s.tick
	s.sheets = added(s.sheets, x)
	// Sheets are valid only in order and if there are not too many.
	need(seam.ValidSheets(s.sheets), api.ErrInvalid)
}

type shipping struct {
	pallet   int
	customer string
}

func (c shipping) text() string { return "ship" + numbers(c.pallet) + " " + c.customer }

func (c shipping) do(s *state) {
	s.move(api.Move{At: s.tick, Pallet: c.pallet, Kind: api.MShip, Where: c.customer})
}

type returning struct{ pallet int }

func (c returning) text() string { return "back" + numbers(c.pallet) }

func (c returning) do(s *state) {
	s.move(api.Move{At: s.tick, Pallet: c.pallet, Kind: api.MBack})
}

type scrapping struct{ pallet int }

func (c scrapping) text() string { return "scrap" + numbers(c.pallet) }

func (c scrapping) do(s *state) {
	s.move(api.Move{At: s.tick, Pallet: c.pallet, Kind: api.MDestroy})
}

type recalling struct{ lot string }

func (c recalling) text() string { return "recall " + c.lot }

func (c recalling) do(s *state) {
	lots, e := s.holding(c.lot)
	check(e)
	s.hold(lots, s.tick)
	s.recall(lots)
}

// numbers returns numbers as a Text has them, each behind a blank.
func numbers(l ...int) string {
	var text string
	for _, n := range l {
		text += " " + strconv.Itoa(n)
	}
	return text
}
