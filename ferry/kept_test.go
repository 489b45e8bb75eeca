package ferry_test

import (
	"math/rand/v2"
	"slices"
	"strings"
	"testing"

	"ferry/api"
	"ferry/ferry"
)

// fleet is clients who come, ask, take and go, each request with a cookie that no other has.
type fleet struct {
	t       *testing.T
	r       *rand.Rand
	c       api.Config
	x       *ferry.Ferry
	numbers []int
	asked   []string // what is written by the request of that cookie
	part    int      // of each job that fails; below 0: any
}

func newFleet(t *testing.T, seed uint64) *fleet {
	r := rand.New(rand.NewPCG(seed, 14))
	most := 4 * (1 + r.IntN(4))
	c := api.Config{
		Size: most + 4*r.IntN(6), Clients: 1 + r.IntN(4), Queue: 1 + r.IntN(8), Max: most, Quantum: most + r.IntN(30),
		Rate: 1 + r.IntN(4), Burst: 1 + r.IntN(6), Workers: 1 + r.IntN(8), Out: most + 4 + r.IntN(80),
	}
	f := &fleet{t: t, r: r, c: c, x: begun(t, c), part: []int{0, 99, -1}[seed%3]}
	f.numbers = slices.Repeat([]int{-1}, c.Clients)
	return f
}

// ask is mostly a write, or some of them in a row, that may go off as one job.
func (f *fleet) ask() string {
	kind := []int{api.Write, api.Write, api.Write, api.Trim, api.Zero, api.Read, api.Flush}[f.r.IntN(7)]
	if kind == api.Flush {
		return f.one(kind, 0, 0, 0)
	}
	flag := 0
	if kind != api.Read && f.r.IntN(3) == 0 {
		flag = 1
	}
	s := ""
	offset := 4 * f.r.IntN(f.c.Size/4)
	for range 1 + f.r.IntN(3) {
		length := 4 * (1 + f.r.IntN(f.c.Max/4))
		s += f.one(kind, flag, offset, length)
		offset += length
	}
	return s
}

// one has bytes that no other writes; some lie behind the disk's end, and make nothing.
func (f *fleet) one(kind, flag, offset, length int) string {
	cookie := len(f.asked)
	data := strings.Repeat("\x00", length)
	if kind == api.Write {
		data = strings.Repeat(twoBytes(cookie)+"w\n", length/4)
	}
	f.asked = append(f.asked, data)
	if kind != api.Write {
		data = ""
	}
	return head(kind, flag, cookie, offset, length) + data
}

func (f *fleet) fate() {
	part := f.part
	if part < 0 {
		part = f.r.IntN(6)
	}
	f.x.Fate(1+f.r.IntN(16)/(1+f.r.IntN(8)), f.r.IntN(3) == 0, part)
}

func (f *fleet) step() {
	i := f.r.IntN(f.c.Clients)
	u := f.numbers[i]
	switch f.r.IntN(12) {
	case 0:
		if n, e := f.x.Connect(1 + f.r.IntN(4)); e == api.OK {
			f.numbers[slices.IndexFunc(f.numbers, f.isGone)] = n
			f.x.Send(n, "FERRYag")
		}
	case 1, 2, 3:
		f.x.Send(u, f.ask())
	case 4, 5:
		f.x.Take(u, f.r.IntN(60))
	case 6, 7:
		f.fate()
	case 8:
		if f.r.IntN(12) == 0 {
			f.x.Hang(u)
		} else if f.r.IntN(20) == 0 {
			f.x.Send(u, []string{"rubbish, and more", bye()}[f.r.IntN(2)])
		}
	default:
		f.x.Tick()
	}
}

func (f *fleet) isGone(u int) bool {
	_, e := f.x.Client(u)
	return e != api.OK
}

// maybe is what may be found in one sector.
type maybe struct {
	now  []string // on the disk
	left []string // behind a crash
}

// outcomes tells of each sector what P14 allows, from the log alone. The last flush without error leaves least open: it counts.
func (f *fleet) outcomes() []maybe {
	sectors := make([]maybe, f.c.Size/4)
	for i := range sectors {
		sectors[i] = maybe{[]string{nought}, []string{nought}}
	}
	for _, e := range f.x.Log() {
		if e.Kind == api.Flush && e.Err == 0 {
			for i := range sectors {
				sectors[i].left = slices.Clone(sectors[i].now)
			}
		}
		for at := 0; at < e.Length && e.Kind != api.Read; at += 4 {
			f.happens(&sectors[(e.Offset+at)/4], e, f.asked[e.Cookie][at:at+4])
		}
	}
	return sectors
}

// happens: of what failed, the fates of this fleet tell whether nothing, all, or nobody knows what was made.
func (f *fleet) happens(m *maybe, e api.Entry, s string) {
	switch {
	case e.Err != 0 && f.part == 0:
		return
	case e.Err != 0 && f.part < 0:
		m.now = append(m.now, s)
	default:
		m.now = []string{s}
	}
	m.left = append(m.left, s)
	if e.Err == 0 && e.Flag == 1 {
		m.left = []string{s}
	}
}

func (f *fleet) keep() string {
	choice := []string{"1", "0", "01", "0001", "0111", "01xX\x00\xff"}[f.r.IntN(6)]
	var s strings.Builder
	for range f.r.IntN(60) * f.r.IntN(3) {
		s.WriteByte(choice[f.r.IntN(len(choice))])
	}
	return s.String()
}

// wantKept holds the disk and what crashes leave against what is allowed. It tells how many sectors had another choice.
func (f *fleet) wantKept() int {
	f.t.Helper()
	open := 0
	sectors := f.outcomes()
	disk := f.x.Disk()
	for i, m := range sectors {
		if s := disk[4*i : 4*i+4]; !slices.Contains(m.now, s) {
			f.t.Fatalf("P11: sector %d of Disk() is %q, the log allows for %q", i, s, m.now)
		}
	}
	for range 4 {
		keep := f.keep()
		left := f.x.Crash(keep)
		if len(left) != f.c.Size {
			f.t.Fatalf("P10: Crash(%q) has %d bytes, want %d", keep, len(left), f.c.Size)
		}
		for i, m := range sectors {
			s := left[4*i : 4*i+4]
			if !slices.Contains(m.left, s) {
				f.t.Fatalf("P14: sector %d of Crash(%q) is %q, the log allows for %q: %+v", i, keep, s, m.left, f.x.Log())
			}
			if s != disk[4*i:4*i+4] {
				open++
			}
		}
	}
	return open
}

// TestKept: P14, at many moments of many scripts.
func TestKept(t *testing.T) {
	open := [3]int{}
	var log []api.Entry
	for seed := range uint64(180) {
		f := newFleet(t, seed)
		for n := range 700 {
			f.step()
			if n%7 == 0 {
				open[seed%3] += f.wantKept()
			}
		}
		log = append(log, f.x.Log()...)
	}
	for i, n := range open {
		if n < 1000 {
			t.Errorf("P14: with fates of part %d, %d sectors were lost in all: that tells little", i, n)
		}
	}
	wantEverything(t, log)
}

// wantEverything: the scripts have all kinds, flags and errors, else they would tell little.
func wantEverything(t *testing.T, log []api.Entry) {
	t.Helper()
	for _, kind := range []int{api.Read, api.Write, api.Flush, api.Trim, api.Zero} {
		for flag := range 2 {
			for _, err := range []int{api.Fine, api.Failed} {
				if flag == 1 && (kind == api.Read || kind == api.Flush) {
					continue
				}
				has := func(e api.Entry) bool { return e.Kind == kind && e.Flag == flag && e.Err == err }
				if !slices.ContainsFunc(log, has) {
					t.Errorf("P14: no script has kind %d, flag %d, error %d", kind, flag, err)
				}
			}
		}
	}
}

// TestUntouched: P14: no byte changes that lies in no request's range, whatever fails or is lost.
func TestUntouched(t *testing.T) {
	for at := 0; at < 64; at += 4 {
		for _, kind := range []int{api.Write, api.Trim, api.Zero} {
			for n := range 8 {
				x := aboard(t, wide(1), 1)
				for offset := 0; offset < 64; offset += 16 {
					finish(t, x, 0, through(offset, offset, strings.Repeat("x", 16)))
				}
				length := min(4+4*(n%3), 64-at)
				wantFate(t, x, 1, n%2 == 1, n/2, api.OK)
				finish(t, x, 0, row(kind, n/4, 99, at, length))
				for _, s := range []string{x.Disk(), x.Crash(""), x.Crash("1"), x.Crash("01"), x.Crash("11111")} {
					if s[:at]+s[at+length:] != strings.Repeat("x", 64-length) {
						t.Fatalf("P14: behind a request at %d, of %d bytes, %q is left", at, length, s)
					}
				}
			}
		}
	}
}
