package plant_test

import (
	"slices"
	"strings"
	"testing"

	"cannery/api"
	"cannery/plant"
)

// change is a change of a setup.
type change struct {
	name   string
	change func(x *plant.Setup)
	valid  bool
}

// bounds are changes of a number that must be within some bounds.
func bounds(name string, field func(x *plant.Setup) *int, least, most int) []change {
	var l []change
	for n, valid := range map[int]bool{least - 1: false, least: true, most: true, most + 1: false, -1 << 63: false, 1<<63 - 1: false} {
		l = append(l, change{name, func(x *plant.Setup) { *field(x) = n }, valid})
	}
	return l
}

// signs are changes of a text that must be one sign.
func signs(name string, field func(x *plant.Setup) *string) []change {
	var l []change
	for s, valid := range map[string]bool{"0": true, "W": true, "H": true, "": false, "I": false, "O": false, "X": false, "a": false, "00": false, " ": false, "\x00": false, "\xff": false, "Ä": false} {
		l = append(l, change{name + " " + s, func(x *plant.Setup) { *field(x) = s }, valid})
	}
	return l
}

func changes() []change {
	return slices.Concat(
		bounds("Vent", func(x *plant.Setup) *int { return &x.Vent }, 0, 200000),
		bounds("VentTicks", func(x *plant.Setup) *int { return &x.VentTicks }, 0, 2000),
		bounds("Cold", func(x *plant.Setup) *int { return &x.Cold }, 0, 200000),
		bounds("Cooling", func(x *plant.Setup) *int { return &x.Cooling }, 1, 2000),
		bounds("Heads", func(x *plant.Setup) *int { return &x.Heads }, 1, 12),
		bounds("Life", func(x *plant.Setup) *int { return &x.Life }, 1, 1000000000),
		signs("Plant", func(x *plant.Setup) *string { return &x.Plant }),
		signs("Line", func(x *plant.Setup) *string { return &x.Line }),
		[]change{
			{"nothing", func(x *plant.Setup) {}, true},
			{"vessel", func(x *plant.Setup) { x.Vessel.Name = "" }, false},
			{"vessel that heats not", func(x *plant.Setup) { x.Vessel.Heating = 0 }, false},
			{"can", func(x *plant.Setup) { x.Can.Rings = 7 }, false},
			{"can of no place", func(x *plant.Setup) { x.Can = api.Can{} }, false},
			{"killer", func(x *plant.Setup) { x.Killer.D = 0 }, false},
			{"spoiler", func(x *plant.Setup) { x.Spoiler.Goal = 21 }, false},
			{"killers of one name", func(x *plant.Setup) { x.Spoiler = x.Killer }, true},
			{"norm", func(x *plant.Setup) { x.Norm.BodyLo = x.Norm.BodyHi + 1 }, false},
			{"schedule", func(x *plant.Setup) { x.Schedules[1].Ticks = 0 }, false},
			{"no schedules", func(x *plant.Setup) { x.Schedules = nil }, true},
			{"64 schedules", func(x *plant.Setup) { x.Schedules = slices.Repeat(x.Schedules, 16) }, true},
			{"68 schedules", func(x *plant.Setup) { x.Schedules = slices.Repeat(x.Schedules, 17) }, false},
			{"venting and cooling longer than a run", func(x *plant.Setup) { x.VentTicks, x.Cooling = 2000, 2000 }, true},
		},
	)
}

// Of 10.1: which setups are valid, and that only those make plants.
func TestSetups(t *testing.T) {
	for _, c := range changes() {
		x := setup()
		c.change(&x)
		if plant.ValidSetup(x) != c.valid {
			t.Errorf("%s: ValidSetup is not %v", c.name, c.valid)
		}
		want := api.OK
		if !c.valid {
			want = api.ErrInvalid
		}
		if p, e := plant.New(x); e != want || (p != nil) != c.valid {
			t.Errorf("%s: New = %v, %d", c.name, p, e)
		}
		if p, e := plant.Read(x, nil); e != want || (p != nil) != c.valid {
			t.Errorf("%s: Read = %v, %d", c.name, p, e)
		}
		// The setup is looked at before the book.
		if _, e := plant.Read(x, []byte("\n")); !c.valid && e != api.ErrInvalid || c.valid && e != api.ErrChain {
			t.Errorf("%s: Read of a broken book: %d", c.name, e)
		}
	}
	if plant.ValidSetup(plant.Setup{}) {
		t.Error("the empty setup is valid")
	}
}

// Of 10.1: in a new plant there is nothing.
func TestNewPlants(t *testing.T) {
	p := opened(t, setup())
	lots, uses := p.Graph()
	if n := p.Now() + len(p.Entries()) + len(p.Sheets()) + len(lots) + len(uses) + len(p.Moves()) + len(p.Recalled()) + len(p.Lines()) + len(p.Bytes()); n != 0 {
		t.Errorf("a new plant has %s", told(p))
	}
	if !plant.Same(p, opened(t, setup())) {
		t.Error("two new plants differ")
	}
}

// Of 10.4: plants of different setups are not the same.
func TestOtherSetups(t *testing.T) {
	p := opened(t, setup())
	for name, f := range map[string]func(x *plant.Setup){
		"Vessel":    func(x *plant.Setup) { x.Vessel.Chart++ },
		"Can":       func(x *plant.Setup) { x.Can.Axial++ },
		"Killer":    func(x *plant.Setup) { x.Killer.Name = "other" },
		"Spoiler":   func(x *plant.Setup) { x.Spoiler.Z-- },
		"Norm":      func(x *plant.Setup) { x.Norm.Percent++ },
		"Schedules": func(x *plant.Setup) { x.Schedules[3].Ticks-- },
		"fewer":     func(x *plant.Setup) { x.Schedules = x.Schedules[:3] },
		"Vent":      func(x *plant.Setup) { x.Vent++ },
		"VentTicks": func(x *plant.Setup) { x.VentTicks++ },
		"Cold":      func(x *plant.Setup) { x.Cold++ },
		"Cooling":   func(x *plant.Setup) { x.Cooling++ },
		"Heads":     func(x *plant.Setup) { x.Heads++ },
		"Life":      func(x *plant.Setup) { x.Life++ },
		"Plant":     func(x *plant.Setup) { x.Plant = "B" },
		"Line":      func(x *plant.Setup) { x.Line = "8" },
	} {
		x := setup()
		f(&x)
		if q := opened(t, x); plant.Same(p, q) || plant.Same(q, p) || !plant.Same(q, q) {
			t.Errorf("%s makes no difference", name)
		}
	}
	bare := setup()
	bare.Schedules = nil
	empty := setup()
	empty.Schedules = []api.Schedule{}
	if !plant.Same(opened(t, bare), opened(t, empty)) {
		t.Error("no schedules are not the same as none")
	}
}

// Of P10.1: a plant keeps none of its setup's memory.
func TestSetupIsCopied(t *testing.T) {
	x := setup()
	p := opened(t, x)
	read, _ := plant.Read(x, nil)
	clear(x.Schedules)
	for _, q := range []*plant.Plant{p, read} {
		if out := plant.Do(q, "lot a 1\ncook peas a 1 1 20000 1\n"); !strings.HasSuffix(out, "released 1324\n") {
			t.Errorf("prints %q", out)
		}
	}
}
