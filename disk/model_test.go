package disk_test

import (
	"slices"
	"strconv"
	"testing"

	"verbatim/api"
	"verbatim/disk"
)

// refFile and ref are the chapter's words, without a change that is done twice: each state of the directory is kept whole.
type refFile struct {
	name   string
	number int
}

type ref struct {
	room   int
	data   []string
	synced []int
	past   [][]refFile // the directory as it was synced, then as each change left it
	acts   int
	fuse   int
	down   bool
}

func newRef(room int) *ref {
	return &ref{room: max(room, 0), past: [][]refFile{{}}, fuse: -1}
}

func (r *ref) now() []refFile { return r.past[len(r.past)-1] }

func (r *ref) place(name string) int {
	return slices.IndexFunc(r.now(), func(f refFile) bool { return f.name == name })
}

func (r *ref) without(names ...string) []refFile {
	return slices.DeleteFunc(slices.Clone(r.now()), func(f refFile) bool { return slices.Contains(names, f.name) })
}

func (r *ref) used() int {
	n := 0
	for _, f := range r.now() {
		n += len(r.data[f.number])
	}
	return n
}

// ready tells whether an act may begin; done counts it.
func (r *ref) ready() bool {
	if !r.down && r.fuse == 0 {
		r.down = true
	}
	return !r.down
}

func (r *ref) done() api.Errno {
	r.acts++
	if r.fuse > 0 {
		r.fuse--
	}
	return api.OK
}

func (r *ref) leave(l []refFile) api.Errno {
	slices.SortFunc(l, func(a, b refFile) int {
		if a.name < b.name {
			return -1
		}
		return 1
	})
	r.past = append(r.past, l)
	return r.done()
}

func (r *ref) create(name string) api.Errno {
	if !r.ready() {
		return api.ErrDown
	}
	if name == "" || name == "B" {
		return api.ErrArg
	}
	if r.place(name) >= 0 {
		return api.ErrThere
	}
	r.data, r.synced = append(r.data, ""), append(r.synced, 0)
	return r.leave(append(slices.Clone(r.now()), refFile{name, len(r.data) - 1}))
}

func (r *ref) append(name, b string) api.Errno {
	if !r.ready() {
		return api.ErrDown
	}
	i := r.place(name)
	if i < 0 {
		return api.ErrNone
	}
	if r.used()+len(b) > r.room {
		return api.ErrFull
	}
	r.data[r.now()[i].number] += b
	return r.done()
}

func (r *ref) sync(name string) api.Errno {
	if !r.ready() {
		return api.ErrDown
	}
	i := r.place(name)
	if i < 0 {
		return api.ErrNone
	}
	n := r.now()[i].number
	r.synced[n] = len(r.data[n])
	return r.done()
}

func (r *ref) rename(from, to string) api.Errno {
	if !r.ready() {
		return api.ErrDown
	}
	if to == "" || to == "B" {
		return api.ErrArg
	}
	i := r.place(from)
	if i < 0 {
		return api.ErrNone
	}
	if from == to {
		return r.done()
	}
	return r.leave(append(r.without(from, to), refFile{to, r.now()[i].number}))
}

func (r *ref) remove(name string) api.Errno {
	if !r.ready() {
		return api.ErrDown
	}
	if r.place(name) < 0 {
		return api.ErrNone
	}
	return r.leave(r.without(name))
}

func (r *ref) syncDir() api.Errno {
	if !r.ready() {
		return api.ErrDown
	}
	r.past = r.past[len(r.past)-1:]
	return r.done()
}

func (r *ref) read(name string) (string, api.Errno) {
	if r.down {
		return "", api.ErrDown
	}
	i := r.place(name)
	if i < 0 {
		return "", api.ErrNone
	}
	return r.data[r.now()[i].number], api.OK
}

func (r *ref) crash(c api.Crash) {
	n := 0
	if c.Acts > 0 {
		n = c.Acts % len(r.past)
	}
	r.past = [][]refFile{r.past[n]}
	for i, f := range r.now() {
		cut := 0
		if i < len(c.Cuts) && c.Cuts[i] > 0 {
			cut = c.Cuts[i] % (len(r.data[f.number]) - r.synced[f.number] + 1)
		}
		r.synced[f.number] += cut
		r.data[f.number] = r.data[f.number][:r.synced[f.number]]
	}
	r.fuse, r.down = -1, false
}

func (r *ref) state() state {
	s := state{used: r.used(), acts: r.acts, down: r.down}
	for _, f := range r.now() {
		s.files = append(s.files, api.File{Name: f.name, Data: []byte(r.data[f.number])})
	}
	return s
}

// dice are numbers that look like chance and are the same each time.
type dice uint64

func (x *dice) roll(n int) int {
	*x = *x*6364136223846793005 + 1442695040888963407
	return int(uint64(*x)>>33) % n
}

func (x *dice) name() string {
	return []string{"a", "b", "c", "d", "e", "", "B"}[x.roll(36)%7]
}

// step does the same with both, and tells what it was and both errors.
func step(x *dice, d *disk.Disk, r *ref) (string, api.Errno, api.Errno) {
	name, to := x.name(), x.name()
	switch k := x.roll(30); {
	case k < 7:
		return "create " + name, d.Create(name), r.create(name)
	case k < 14:
		b := "abcdefgh"[:x.roll(9)]
		return "append " + name + " " + b, d.Append(name, []byte(b)), r.append(name, b)
	case k < 17:
		return "sync " + name, d.Sync(name), r.sync(name)
	case k < 22:
		return "rename " + name + " " + to, d.Rename(name, to), r.rename(name, to)
	case k < 25:
		return "remove " + name, d.Remove(name), r.remove(name)
	case k < 27:
		return "syncdir", d.SyncDir(), r.syncDir()
	case k < 28:
		n := x.roll(12) - 2
		d.Fuse(n)
		r.fuse = max(n, -1)
		return "fuse " + strconv.Itoa(n), 0, 0
	}
	c := api.Crash{Acts: x.roll(12) - 1}
	for range x.roll(6) {
		c.Cuts = append(c.Cuts, x.roll(14)-1)
	}
	d.Crash(c)
	r.crash(c)
	return "crash " + strconv.Itoa(c.Acts), 0, 0
}

// TestP11Ref plays many scripts on a disk and on the reference, and compares all after each step.
func TestP11Ref(t *testing.T) {
	for seed := range 600 {
		x := dice(seed)
		room := x.roll(60) - 1
		d, r := disk.New(room), newRef(room)
		var script []string
		for range 80 {
			what, got, want := step(&x, d, r)
			script = append(script, what)
			if got != want || !stateOf(d).same(r.state()) {
				t.Fatalf("room %d, %q:\nerror %d, %v\n want %d, %v", room, script, got, stateOf(d), want, r.state())
			}
			name := x.name()
			b, e := d.Read(name)
			if s, want := r.read(name); string(b) != s || e != want {
				t.Fatalf("room %d, %q:\nread %q: %q, error %d, want %q, %d", room, script, name, b, e, s, want)
			}
		}
	}
}
