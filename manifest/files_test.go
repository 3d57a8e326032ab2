package manifest_test

import (
	"bytes"
	"math"
	"slices"
	"strconv"
	"testing"

	"verbatim/api"
	"verbatim/disk"
	"verbatim/manifest"
)

const room = 5000

// act is an act of a disk, or a call of several.
type act func(d *disk.Disk) api.Errno

func create(name string) act {
	return func(d *disk.Disk) api.Errno { return d.Create(name) }
}

func appendTo(name string, b []byte) act {
	return func(d *disk.Disk) api.Errno { return d.Append(name, b) }
}

func syncOf(name string) act {
	return func(d *disk.Disk) api.Errno { return d.Sync(name) }
}

func rename(from, to string) act {
	return func(d *disk.Disk) api.Errno { return d.Rename(from, to) }
}

func remove(name string) act {
	return func(d *disk.Disk) api.Errno { return d.Remove(name) }
}

func syncDir(d *disk.Disk) api.Errno { return d.SyncDir() }

// byHand is the acts one after the other, up to the first one that fails.
func byHand(l []act) act {
	return func(d *disk.Disk) api.Errno {
		for _, a := range l {
			if e := a(d); e != api.OK {
				return e
			}
		}
		return api.OK
	}
}

// writeActs, saveActs and cleanActs are the chapter's words, for a disk as it is.
func writeActs(d *disk.Disk, name string, b []byte) []act {
	l := []act{create(name), appendTo(name, b), syncOf(name)}
	if slices.Contains(d.Names(), name) {
		return append([]act{remove(name)}, l...)
	}
	return l
}

func saveActs(d *disk.Disk, m api.Manifest) []act {
	l := writeActs(d, "man.new", framed(integers(m)...))
	return append(l, syncDir, rename("man.new", "man"), syncDir)
}

func cleanActs(d *disk.Disk, m api.Manifest) []act {
	var l []act
	for _, name := range d.Names() {
		if !isKept(m, name) {
			l = append(l, remove(name))
		}
	}
	if len(l) > 0 {
		l = append(l, syncDir)
	}
	return l
}

// isKept tells whether a file is not one of the others.
func isKept(m api.Manifest, name string) bool {
	if name == "man" {
		return true
	}
	for _, r := range m.Refs {
		if name == "s."+strconv.FormatInt(r.Num, 10) {
			return true
		}
		if r.Dels != 0 && name == "d."+strconv.FormatInt(r.Dels, 10) {
			return true
		}
	}
	return false
}

func file(name, data string) api.File { return api.File{Name: name, Data: []byte(data)} }

// manFile is the file of a manifest.
func manFile(m api.Manifest) api.File {
	return api.File{Name: "man", Data: framed(integers(m)...)}
}

var (
	older = of(3, 9, api.Ref{Num: 2, Docs: 5, Level: 1, Dels: 7}, api.Ref{Num: 8})
	newer = of(4, 11, api.Ref{Num: 8, Docs: 1}, api.Ref{Num: 9, Docs: 3, Level: 2, Dels: 10})
)

// starts make disks, each time the same: what is synced there, and what is not.
func starts() map[string]func() *disk.Disk {
	with := func(l []api.File, acts ...act) func() *disk.Disk {
		return func() *disk.Disk {
			d := disk.Of(room, l)
			for _, a := range acts {
				if e := a(d); e != api.OK {
					panic(e)
				}
			}
			return d
		}
	}
	many := []api.File{manFile(older)}
	for i := range 62 {
		many = append(many, file("s."+strconv.Itoa(i), "x"))
	}
	return map[string]func() *disk.Disk{
		"empty":       with(nil),
		"saved":       with([]api.File{manFile(older)}),
		"new one":     with([]api.File{file("man.new", "12345")}),
		"both":        with([]api.File{manFile(older), file("man.new", "12345"), file("s.2", "a"), file("s.3", "b"), file("d.7", "c"), file("d.0", "e")}),
		"some":        with([]api.File{manFile(older), file("s.8", "a"), file("s.9", "b"), file("d.10", "c"), file("d.8", "d"), file("x", "y"), file("a", "z")}),
		"not synced":  with([]api.File{manFile(older)}, create("man.new"), appendTo("man.new", []byte("123")), create("s.9"), remove("man.new")),
		"half synced": with([]api.File{manFile(older), file("b", "1")}, create("man.new"), appendTo("man.new", []byte("123")), syncOf("man.new"), create("s.9"), appendTo("s.9", []byte("12"))),
		"63 files":    with(many),
		"64 files":    with(append(slices.Clone(many), file("man.new", "1"))),
		"64 others":   with(append(slices.Clone(many), file("x", "1"))),
	}
}

// crashes are what may be left.
func crashes() []api.Crash {
	var l []api.Crash
	for acts := range 8 {
		for _, cuts := range [][]int{nil, {1, 1, 1, 1, 1}, {2, 3, 4, 5, 6}, {30, 40, 50, 60, 70}} {
			l = append(l, api.Crash{Acts: acts, Cuts: cuts})
		}
	}
	return l
}

func isSameDisk(a, b *disk.Disk) bool {
	return a.Acts() == b.Acts() && a.Down() == b.Down() && slices.EqualFunc(a.Files(), b.Files(), func(f, g api.File) bool {
		return f.Name == g.Name && bytes.Equal(f.Data, g.Data)
	})
}

// wantActs holds a call against its acts by hand: wherever the power goes off, and whatever is left then.
func wantActs(t *testing.T, name string, call act, acts func(d *disk.Disk) []act) {
	t.Helper()
	for start, fresh := range starts() {
		most := len(acts(fresh()))
		for fuse := -1; fuse <= most; fuse += 1 + most/12 { // of many acts some, for time's sake
			for _, c := range crashes() {
				got, want := fresh(), fresh()
				got.Fuse(fuse)
				want.Fuse(fuse)
				e, f := call(got), byHand(acts(want))(want)
				if e != f || !isSameDisk(got, want) {
					t.Fatalf("%s, %s, fuse %d: error %d, %d acts, %q\nwant error %d, %d acts, %q", name, start, fuse, e, got.Acts(), got.Files(), f, want.Acts(), want.Files())
				}
				got.Crash(c)
				want.Crash(c)
				if !isSameDisk(got, want) {
					t.Fatalf("%s, %s, fuse %d, crash %v: %q\nwant %q", name, start, fuse, c, got.Files(), want.Files())
				}
			}
		}
	}
}

func wantFiles(t *testing.T, name string, d *disk.Disk, want ...api.File) {
	t.Helper()
	if !isSameDisk(disk.Of(0, d.Files()), disk.Of(0, want)) {
		t.Errorf("%s: files %q, want %q", name, d.Files(), want)
	}
}

func wantErr(t *testing.T, name string, got, want api.Errno) {
	t.Helper()
	if got != want {
		t.Errorf("%s: error %d, want %d", name, got, want)
	}
}

func TestP151WriteActs(t *testing.T) {
	for name, b := range map[string][]byte{"a": []byte("12345"), "man.new": []byte("12"), "man": nil, "x": {}, "s.9": []byte("1")} {
		wantActs(t, "write "+name, func(d *disk.Disk) api.Errno {
			return manifest.Write(d, name, b)
		}, func(d *disk.Disk) []act {
			return writeActs(d, name, b)
		})
	}
}

func TestP151Write(t *testing.T) {
	d := disk.New(room)
	wantErr(t, "a new one", manifest.Write(d, "a", []byte("123")), api.OK)
	wantFiles(t, "a new one", d, file("a", "123"))
	if d.Acts() != 3 {
		t.Errorf("%d acts, want 3", d.Acts())
	}
	wantErr(t, "another one", manifest.Write(d, "b", nil), api.OK)
	wantErr(t, "over it", manifest.Write(d, "a", []byte("45")), api.OK)
	wantFiles(t, "over it", d, file("a", "45"), file("b", ""))
	if d.Acts() != 10 {
		t.Errorf("%d acts, want 10", d.Acts())
	}
	d.Crash(api.Crash{Acts: 4})
	wantFiles(t, "after a crash", d, file("a", "45"), file("b", ""))
}

// TestP151WriteIsSynced: the bytes stay, the name only by SyncDir.
func TestP151WriteIsSynced(t *testing.T) {
	d := disk.Of(room, []api.File{file("a", "1")})
	wantErr(t, "write", manifest.Write(d, "b", []byte("23")), api.OK)
	wantErr(t, "syncdir", d.SyncDir(), api.OK)
	d.Crash(api.Crash{})
	wantFiles(t, "after a crash", d, file("a", "1"), file("b", "23"))
	wantErr(t, "write", manifest.Write(d, "c", []byte("4")), api.OK)
	d.Crash(api.Crash{})
	wantFiles(t, "without a name", d, file("a", "1"), file("b", "23"))
}

// TestP151WriteWrong: the first error ends it, and what was done till then stays.
func TestP151WriteWrong(t *testing.T) {
	d := disk.Of(4, []api.File{file("a", "12"), file("b", "3")})
	for _, name := range []string{"", "A", "a/b", "a b", "1234567890123456789012345", "\xff"} {
		wantErr(t, "write "+strconv.Quote(name), manifest.Write(d, name, []byte("1")), api.ErrArg)
	}
	if d.Acts() != 0 {
		t.Errorf("%d acts, want none", d.Acts())
	}
	wantErr(t, "full", manifest.Write(d, "c", []byte("45")), api.ErrFull)
	wantFiles(t, "full", d, file("a", "12"), file("b", "3"), file("c", ""))
	wantErr(t, "full, over one", manifest.Write(d, "a", []byte("4567")), api.ErrFull)
	wantFiles(t, "full, over one", d, file("a", ""), file("b", "3"), file("c", ""))
	wantErr(t, "to the byte", manifest.Write(d, "a", []byte("456")), api.OK)
	wantErr(t, "too long", manifest.Write(d, "a", make([]byte, api.MaxFile+1)), api.ErrTooMany)
	wantFiles(t, "too long", d, file("a", ""), file("b", "3"), file("c", ""))
	d.Fuse(0)
	wantErr(t, "the power goes", manifest.Write(d, "a", nil), api.ErrDown)
	wantErr(t, "the power is off", manifest.Write(d, "x", nil), api.ErrDown)
	wantErr(t, "the power is off, a wrong name", manifest.Write(d, "?", nil), api.ErrDown)
	wantFiles(t, "the power is off", d, file("a", ""), file("b", "3"), file("c", ""))
}

func TestP151WriteMany(t *testing.T) {
	d := disk.New(100)
	for i := range api.MaxFiles {
		wantErr(t, "write", manifest.Write(d, "f"+strconv.Itoa(i), []byte("1")), api.OK)
	}
	wantErr(t, "one more", manifest.Write(d, "more", nil), api.ErrTooMany)
	wantErr(t, "over one", manifest.Write(d, "f63", []byte("23")), api.OK)
	if b, e := d.Read("f63"); string(b) != "23" || e != api.OK {
		t.Errorf("%q, error %d", b, e)
	}
}

func TestP151SaveActs(t *testing.T) {
	for name, m := range map[string]api.Manifest{"newer": newer, "the least": of(0, 1), "the greatest": goods()[len(goods())-1]} {
		wantActs(t, "save "+name, func(d *disk.Disk) api.Errno {
			return manifest.Save(d, m)
		}, func(d *disk.Disk) []act {
			return saveActs(d, m)
		})
	}
}

func TestP151Save(t *testing.T) {
	d := disk.New(room)
	wantErr(t, "save", manifest.Save(d, older), api.OK)
	wantFiles(t, "save", d, manFile(older))
	if d.Acts() != 6 {
		t.Errorf("%d acts, want 6", d.Acts())
	}
	wantErr(t, "save", manifest.Save(d, newer), api.OK)
	wantErr(t, "a file", manifest.Write(d, "man.new", []byte("1")), api.OK)
	wantErr(t, "save", manifest.Save(d, older), api.OK)
	wantFiles(t, "save", d, manFile(older))
	if d.Acts() != 22 {
		t.Errorf("%d acts, want 22", d.Acts())
	}
}

// TestP151SaveWrong: what is not valid is not written, be there a disk or not.
func TestP151SaveWrong(t *testing.T) {
	for name, m := range bads() {
		d := disk.Of(room, []api.File{manFile(older), file("man.new", "1")})
		wantErr(t, name, manifest.Save(d, m), api.ErrArg)
		if d.Acts() != 0 {
			t.Errorf("%s: %d acts, want none", name, d.Acts())
		}
		wantFiles(t, name, d, manFile(older), file("man.new", "1"))
		d.Fuse(0)
		wantErr(t, name+", a fuse", manifest.Save(d, m), api.ErrArg)
		if d.Down() {
			t.Errorf("%s: the power went off", name)
		}
		wantErr(t, name+", the power goes", manifest.Save(d, newer), api.ErrDown)
		wantErr(t, name+", the power is off", manifest.Save(d, m), api.ErrArg)
	}
}

// TestP151SaveFull: the one that was saved stays.
func TestP151SaveFull(t *testing.T) {
	long := len(manFile(older).Data) + len(manFile(newer).Data)
	for less := range 2 {
		d := disk.Of(long-less, []api.File{manFile(older)})
		e := manifest.Save(d, newer)
		m, f := manifest.Load(d)
		if less == 1 && (e != api.ErrFull || f != api.OK || !isSame(m, older)) || less == 0 && (e != api.OK || !isSame(m, newer)) {
			t.Errorf("room %d: error %d, then %v, error %d", long-less, e, m, f)
		}
	}
	d := starts()["64 others"]()
	wantErr(t, "64 files", manifest.Save(d, newer), api.ErrTooMany)
	if m, e := manifest.Load(d); e != api.OK || !isSame(m, older) {
		t.Errorf("%v, error %d", m, e)
	}
}

func TestP151Load(t *testing.T) {
	load := func(name string, d *disk.Disk, want api.Manifest, wrong api.Errno) {
		t.Helper()
		acts := d.Acts()
		if m, e := manifest.Load(d); e != wrong || !isSame(m, want) {
			t.Errorf("%s: %v, error %d, want %v, %d", name, m, e, want, wrong)
		}
		if d.Acts() != acts {
			t.Errorf("%s: it is %d acts", name, d.Acts()-acts)
		}
	}
	load("empty", disk.New(0), api.Manifest{}, api.ErrNone)
	saved := framed(integers(older)...)
	load("a new one", disk.Of(0, []api.File{{Name: "man.new", Data: saved}}), api.Manifest{}, api.ErrNone)
	for _, m := range goods() {
		load("good", disk.Of(0, []api.File{manFile(m), file("man.new", "1")}), m, api.OK)
	}
	for name, m := range bads() {
		load(name, disk.Of(0, []api.File{manFile(m)}), api.Manifest{}, api.ErrCorrupt)
	}
	load("no bytes", disk.Of(0, []api.File{file("man", "")}), api.Manifest{}, api.ErrCorrupt)
	load("cut off", disk.Of(0, []api.File{{Name: "man", Data: saved[:len(saved)-1]}}), api.Manifest{}, api.ErrCorrupt)
	load("a byte more", disk.Of(0, []api.File{{Name: "man", Data: append(slices.Clone(saved), 0)}}), api.Manifest{}, api.ErrCorrupt)
	for _, f := range []api.File{manFile(older), file("man", "1"), file("x", "1")} {
		d := disk.Of(0, []api.File{f})
		d.Fuse(0)
		wantErr(t, "the power goes", d.SyncDir(), api.ErrDown)
		load("the power is off", d, api.Manifest{}, api.ErrDown)
	}
}

func TestP151CleanActs(t *testing.T) {
	for name, m := range map[string]api.Manifest{
		"older": older, "newer": newer, "zero": {}, "without segments": of(1, 2),
		"of number 0": of(1, 2, api.Ref{}), "of no name": of(1, 2, api.Ref{Num: -1, Dels: -2}), "the greatest": of(0, 0, api.Ref{Num: math.MaxInt64, Dels: math.MinInt64}),
	} {
		wantActs(t, "clean "+name, func(d *disk.Disk) api.Errno {
			return manifest.Clean(d, m)
		}, func(d *disk.Disk) []act {
			return cleanActs(d, m)
		})
	}
}

// TestP151CleanNames cleans files whose names are nearly those of a manifest's.
func TestP151CleanNames(t *testing.T) {
	m := of(3, 100, api.Ref{Num: 2, Dels: 7}, api.Ref{Num: 12}, api.Ref{Num: 30, Dels: 1})
	kept := []string{"d.1", "d.7", "man", "s.12", "s.2", "s.30"}
	away := []string{
		"man.new", "man.", "ma", "mann", "s.7", "d.2", "d.12", "d.30", "s.1", "s.0", "d.0", "s.02", "s.2.", "s.22", "s.3", "s.", "d.", "s", "d",
		"s2", "d7", "d.07", "d.77", "s.120", "s.012", "2", "7", ".", "s..2", "man.2", "s.man", "new",
	}
	var l []api.File
	for _, name := range slices.Concat(kept, away) {
		l = append(l, file(name, "1"))
	}
	d := disk.Of(room, l)
	wantErr(t, "clean", manifest.Clean(d, m), api.OK)
	if !slices.Equal(d.Names(), kept) || d.Acts() != len(away)+1 {
		t.Errorf("names %q, want %q; %d acts, want %d", d.Names(), kept, d.Acts(), len(away)+1)
	}
	for range 2 {
		d.Fuse(0)
		wantErr(t, "clean, nothing to do", manifest.Clean(d, m), api.OK)
		if d.Down() || d.Acts() != len(away)+1 {
			t.Errorf("down %t, %d acts", d.Down(), d.Acts())
		}
	}
	wantErr(t, "the power goes", d.SyncDir(), api.ErrDown)
	wantErr(t, "clean, the power is off, nothing to do", manifest.Clean(d, m), api.OK)
	wantErr(t, "clean, the power is off", manifest.Clean(d, older), api.ErrDown)
	wantErr(t, "clean an empty one", manifest.Clean(disk.New(0), m), api.OK)
}

// TestP152 saves over an older one, or none: wherever the power goes off, and whatever is left, it is one of both.
func TestP152(t *testing.T) {
	for start, fresh := range starts() {
		before, wrong := manifest.Load(fresh())
		for fuse := -1; fuse < 9; fuse++ {
			for _, c := range crashes() {
				d := fresh()
				d.Fuse(fuse)
				saved := manifest.Save(d, newer)
				d.Crash(c)
				m, e := manifest.Load(d)
				isNew := e == api.OK && isSame(m, newer)
				isOld := e == wrong && isSame(m, before)
				if !isNew && (!isOld || saved == api.OK) {
					t.Fatalf("%s, fuse %d, crash %v: error %d, then %v, error %d", start, fuse, c, saved, m, e)
				}
			}
		}
	}
}

// TestP152Chance saves one after the other, with other files written and cleaned between, and the power off now and then.
func TestP152Chance(t *testing.T) {
	x := dice(5)
	for range 300 {
		d := disk.New(room)
		last, wrong := api.Manifest{}, api.ErrNone
		for range 30 {
			next := x.manifest()
			if x.roll(2) == 0 {
				d.Fuse(x.roll(12))
			}
			for range x.roll(3) {
				manifest.Write(d, []string{"man.new", "s.1", "d.2", "x"}[x.roll(4)], make([]byte, x.roll(9)))
			}
			if x.roll(4) == 0 {
				manifest.Clean(d, last)
			}
			saved := manifest.Save(d, next)
			if saved == api.OK {
				last, wrong = next, api.OK
			}
			if saved != api.OK || x.roll(4) == 0 {
				d.Crash(api.Crash{Acts: x.roll(9), Cuts: []int{x.roll(99), x.roll(99), x.roll(99), x.roll(99)}})
			}
			m, e := manifest.Load(d)
			if e == api.OK && isSame(m, next) {
				last, wrong = next, api.OK
			}
			if e != wrong || !isSame(m, last) {
				t.Fatalf("saved with error %d: %v, error %d, want %v, %d", saved, m, e, last, wrong)
			}
		}
	}
}

// TestP154: after a Clean there are no other files, and those that it removed don't come back; the manifest's own are as they were.
func TestP154(t *testing.T) {
	x := dice(6)
	for start, fresh := range starts() {
		for range 50 {
			m := x.manifest()
			for i := range m.Refs {
				m.Refs[i].Num, m.Refs[i].Dels = m.Refs[i].Num%70, m.Refs[i].Dels%12
			}
			d := fresh()
			var want []api.File
			for _, f := range d.Files() {
				if isKept(m, f.Name) {
					want = append(want, f)
				}
			}
			removes := len(want) < len(d.Names())
			wantErr(t, start, manifest.Clean(d, m), api.OK)
			wantFiles(t, start, d, want...)
			names := d.Names()
			d.Crash(api.Crash{})
			if removes && !slices.Equal(d.Names(), names) {
				t.Errorf("%s: %q, and after a crash %q", start, names, d.Names())
			}
		}
	}
}

// TestP1Disk calls all with what is not valid, on disks with and without power: no call panics.
func TestP1Disk(t *testing.T) {
	l := samples()[:40]
	for _, m := range bads() {
		l = append(l, m)
	}
	for _, power := range []int{-1, 0, 1, 3} {
		for _, fresh := range starts() {
			for _, m := range l {
				d := fresh()
				d.Fuse(power)
				manifest.Clean(d, m)
				manifest.Save(d, m)
				manifest.Load(d)
				manifest.Write(d, "", nil)
				manifest.Clean(d, m)
			}
		}
	}
}

// TestP3KeepsNothing changes what was passed: the disk doesn't notice it, nor is its spare capacity written to.
func TestP3KeepsNothing(t *testing.T) {
	d := disk.New(room)
	back := []byte("123456")
	wantErr(t, "write", manifest.Write(d, "a", back[:3]), api.OK)
	wantErr(t, "append", d.Append("a", []byte("xy")), api.OK)
	if string(back) != "123456" {
		t.Errorf("%q", back)
	}
	spoil(back)
	wantFiles(t, "write", d, file("a", "123xy"))
	refs := append(slices.Clone(newer.Refs), nums(1, 2)...)
	was := slices.Clone(refs)
	m := of(newer.Gen, newer.Next, refs[:len(newer.Refs)]...)
	wantErr(t, "save", manifest.Save(d, m), api.OK)
	wantErr(t, "clean", manifest.Clean(d, m), api.OK)
	if !slices.Equal(refs, was) {
		t.Errorf("%v became %v", was, refs)
	}
	clear(refs)
	if got, e := manifest.Load(d); e != api.OK || !isSame(got, newer) {
		t.Errorf("%v, error %d", got, e)
	}
}

// TestP3LoadIsNew changes what was loaded: the next one is as it was saved.
func TestP3LoadIsNew(t *testing.T) {
	d := disk.Of(room, []api.File{manFile(newer)})
	for range 3 {
		m, e := manifest.Load(d)
		if e != api.OK || !isSame(m, newer) {
			t.Fatalf("%v, error %d", m, e)
		}
		clear(m.Refs[:cap(m.Refs)])
	}
}
