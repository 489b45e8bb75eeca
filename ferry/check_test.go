package ferry_test

import (
	"math"
	"testing"

	"ferry/api"
	"ferry/ferry"
)

// good is the configuration of the document's examples.
var good = api.Config{Size: 64, Clients: 2, Queue: 2, Max: 8, Quantum: 8, Rate: 2, Burst: 4, Workers: 1, Out: 32}

// field is a field of a configuration with the bounds that it has while all others are as in good.
type field struct {
	name        string
	of          func(c *api.Config) *int
	least, most int
	step        int
}

func fields() []field {
	return []field{
		{"Size", func(c *api.Config) *int { return &c.Size }, 4, 256, 4},
		{"Clients", func(c *api.Config) *int { return &c.Clients }, 1, 8, 1},
		{"Queue", func(c *api.Config) *int { return &c.Queue }, 1, 8, 1},
		{"Max", func(c *api.Config) *int { return &c.Max }, 4, 8, 4},
		{"Quantum", func(c *api.Config) *int { return &c.Quantum }, 8, 64, 1},
		{"Rate", func(c *api.Config) *int { return &c.Rate }, 1, 16, 1},
		{"Burst", func(c *api.Config) *int { return &c.Burst }, 1, 32, 1},
		{"Workers", func(c *api.Config) *int { return &c.Workers }, 1, 8, 1},
		{"Out", func(c *api.Config) *int { return &c.Out }, 12, 256, 1},
	}
}

func wantCheck(t *testing.T, what string, c api.Config, isOne bool) {
	t.Helper()
	want := api.ErrConfig
	if isOne {
		want = api.OK
	}
	for range 2 {
		if got := ferry.Check(c); got != want {
			t.Errorf("P3: %s: Check(%+v) = %d, want %d", what, c, got, want)
		}
	}
}

func TestCheckEachFieldAlone(t *testing.T) {
	for _, f := range fields() {
		for n := -300; n <= 300; n++ {
			c := good
			*f.of(&c) = n
			wantCheck(t, f.name, c, f.least <= n && n <= f.most && n%f.step == 0)
		}
	}
}

func TestCheckMax(t *testing.T) {
	for n := -300; n <= 300; n++ {
		c := good
		c.Max, c.Quantum, c.Out = n, 64, 256
		wantCheck(t, "Max", c, 4 <= n && n <= 32 && n%4 == 0)
	}
}

func TestCheckAgainstMax(t *testing.T) {
	for most := 4; most <= 32; most += 4 {
		for n := -1; n <= 300; n++ {
			c := good
			c.Max, c.Quantum, c.Out = most, n, 256
			wantCheck(t, "Quantum against Max", c, most <= n && n <= 64)
			c.Quantum, c.Out = 64, n
			wantCheck(t, "Out against Max and Head", c, most+4 <= n && n <= 256)
		}
	}
}

func TestCheckAllAtTheirBounds(t *testing.T) {
	least := api.Config{Size: 4, Clients: 1, Queue: 1, Max: 4, Quantum: 4, Rate: 1, Burst: 1, Workers: 1, Out: 8}
	most := api.Config{Size: 256, Clients: 8, Queue: 8, Max: 32, Quantum: 64, Rate: 16, Burst: 32, Workers: 8, Out: 256}
	wantCheck(t, "the least", least, true)
	wantCheck(t, "the most", most, true)
	wantCheck(t, "a Max above Size", api.Config{Size: 4, Clients: 1, Queue: 1, Max: 32, Quantum: 32, Rate: 1, Burst: 1, Workers: 1, Out: 36}, true)
	wantCheck(t, "nothing", api.Config{}, false)
}

func TestCheckExamples(t *testing.T) {
	wantCheck(t, "the example", good, true)
	c := good
	c.Max = 6
	wantCheck(t, "Max 6", c, false)
	c = good
	c.Quantum = 4
	wantCheck(t, "Quantum 4", c, false)
	c = good
	c.Out = 11
	wantCheck(t, "Out 11", c, false)
}

// far are numbers at the ends of what there is, with neighbours that are
// multiples of Sector and such that wrap round when Head is added.
var far = []int{math.MaxInt, math.MaxInt - 1, math.MaxInt - 3, math.MaxInt - 4, math.MaxInt - 7, math.MinInt, math.MinInt + 1, math.MinInt + 4, 1 << 32, 1<<32 + 8, -1 << 32, 1<<16 + 8, 1<<8 + 8}

func TestCheckFarNumbers(t *testing.T) {
	for _, n := range far {
		for _, f := range fields() {
			c := good
			*f.of(&c) = n
			wantCheck(t, f.name, c, false)
		}
		for _, out := range far {
			c := good
			c.Max, c.Quantum, c.Out = n, n, out
			wantCheck(t, "Max, Quantum and Out", c, false)
		}
		wantCheck(t, "all", api.Config{Size: n, Clients: n, Queue: n, Max: n, Quantum: n, Rate: n, Burst: n, Workers: n, Out: n}, false)
	}
}
