package disk_test

import (
	"bytes"
	"math"
	"slices"
	"strconv"
	"strings"
	"testing"

	"verbatim/api"
	"verbatim/disk"
)

// done fails the test unless all of these succeeded.
func done(t *testing.T, l ...api.Errno) {
	t.Helper()
	for i, e := range l {
		if e != api.OK {
			t.Fatalf("call %d: error %d", i, e)
		}
	}
}

func wantErr(t *testing.T, what string, got, want api.Errno) {
	t.Helper()
	if got != want {
		t.Errorf("%s: error %d, want %d", what, got, want)
	}
}

func wantNames(t *testing.T, what string, d *disk.Disk, want ...string) {
	t.Helper()
	if got := d.Names(); !slices.Equal(got, want) {
		t.Errorf("%s: names %q, want %q", what, got, want)
	}
}

func wantData(t *testing.T, what string, d *disk.Disk, name, want string) {
	t.Helper()
	b, e := d.Read(name)
	if string(b) != want || e != api.OK {
		t.Errorf("%s: %s has %d bytes %.20q, error %d; want %d bytes %.20q", what, name, len(b), b, e, len(want), want)
	}
}

func sameFiles(a, b []api.File) bool {
	return slices.EqualFunc(a, b, func(x, y api.File) bool {
		return x.Name == y.Name && bytes.Equal(x.Data, y.Data)
	})
}

// state is all that the calls without an effect tell.
type state struct {
	files []api.File
	used  int
	acts  int
	down  bool
}

func stateOf(d *disk.Disk) state {
	return state{d.Files(), d.Used(), d.Acts(), d.Down()}
}

func (a state) same(b state) bool {
	return sameFiles(a.files, b.files) && a.used == b.used && a.acts == b.acts && a.down == b.down
}

// numbered is n files, each with its number as bytes.
func numbered(n int) []api.File {
	var l []api.File
	for i := range n {
		s := strconv.Itoa(i)
		l = append(l, api.File{Name: "f" + s, Data: []byte(s)})
	}
	return l
}

var badNames = []string{"", "A", "Z", "a_b", "a-b", "a/b", "a b", " ", "a\x00", "\xff", "é", "`", "{", "/", ":", "a\n", strings.Repeat("a", api.MaxName+1), strings.Repeat("a", 1000)}

var goodNames = []string{"a", "z", "0", "9", ".", "..", "a.b", "000", "seg.12", strings.Repeat("z", api.MaxName), strings.Repeat(".", api.MaxName)}

func TestP11Limits(t *testing.T) {
	if api.MaxName != 24 || api.MaxFiles != 64 || api.MaxFile != 262144 {
		t.Error("limits")
	}
	for i, e := range []api.Errno{api.OK, api.ErrArg, api.ErrTooMany, api.ErrFull, api.ErrNone, api.ErrThere, api.ErrDown} {
		if want := []int{0, 1, 2, 11, 12, 13, 14}[i]; int(e) != want {
			t.Errorf("error %d, want %d", e, want)
		}
	}
}

func TestP11New(t *testing.T) {
	for _, room := range []int{math.MinInt, -1, 0, 1, math.MaxInt} {
		d := disk.New(room)
		if len(d.Names()) != 0 || len(d.Files()) != 0 || d.Used() != 0 || d.Acts() != 0 || d.Down() {
			t.Errorf("room %d: not empty", room)
		}
		done(t, d.Create("a"), d.Append("a", nil))
		want := api.OK
		if room < 1 {
			want = api.ErrFull
		}
		wantErr(t, "a byte in a room of "+strconv.Itoa(room), d.Append("a", []byte("x")), want)
	}
}

func TestP11NewDisksAreApart(t *testing.T) {
	a, b := disk.New(10), disk.New(10)
	done(t, a.Create("a"))
	wantNames(t, "the other disk", b)
}

func TestP11OfRoom(t *testing.T) {
	l := []api.File{{Name: "b", Data: []byte("1234")}, {Name: "a", Data: []byte("56")}}
	for _, x := range []struct {
		room int
		size int
		want api.Errno
	}{
		{math.MinInt, 0, api.ErrFull}, {-1, 0, api.ErrFull}, {0, 0, api.ErrFull}, {5, 0, api.ErrFull}, {5, 1, api.ErrFull},
		{6, 0, api.OK}, {6, 1, api.ErrFull}, {7, 1, api.OK}, {7, 2, api.ErrFull}, {math.MaxInt, 100, api.OK},
	} {
		d := disk.Of(x.room, l)
		if d == nil {
			t.Fatalf("room %d: nil", x.room)
		}
		if d.Used() != 6 || d.Acts() != 0 || d.Down() {
			t.Errorf("room %d: used %d, acts %d", x.room, d.Used(), d.Acts())
		}
		wantErr(t, "room "+strconv.Itoa(x.room)+", append "+strconv.Itoa(x.size), d.Append("a", make([]byte, x.size)), x.want)
	}
}

func TestP11OfNegativeRoomIsNone(t *testing.T) {
	d := disk.Of(-1, []api.File{{Name: "a"}})
	if d == nil {
		t.Fatal("nil")
	}
	wantErr(t, "no bytes", d.Append("a", nil), api.OK)
	wantErr(t, "a byte", d.Append("a", []byte("x")), api.ErrFull)
}

func TestP11OfFiles(t *testing.T) {
	if d := disk.Of(3, nil); d == nil || len(d.Files()) != 0 {
		t.Error("of no files")
	}
	l := []api.File{{Name: "c", Data: []byte("12")}, {Name: "a", Data: nil}, {Name: "b", Data: []byte("3")}}
	d := disk.Of(0, l)
	if want := []api.File{{Name: "a"}, {Name: "b", Data: []byte("3")}, {Name: "c", Data: []byte("12")}}; !sameFiles(d.Files(), want) {
		t.Errorf("files %v", d.Files())
	}
	wantNames(t, "of", d, "a", "b", "c")
}

func TestP11OfRefuses(t *testing.T) {
	if d := disk.Of(0, numbered(api.MaxFiles)); d == nil || len(d.Names()) != api.MaxFiles {
		t.Error("as many files as may be")
	}
	if disk.Of(0, numbered(api.MaxFiles+1)) != nil {
		t.Error("a file too many")
	}
	if disk.Of(9, []api.File{{Name: "a"}, {Name: "b"}, {Name: "a", Data: []byte("x")}}) != nil {
		t.Error("a name twice")
	}
	if d := disk.Of(0, []api.File{{Name: "a", Data: make([]byte, api.MaxFile)}}); d == nil || d.Used() != api.MaxFile {
		t.Error("as long a file as may be")
	}
	if disk.Of(math.MaxInt, []api.File{{Name: "a", Data: make([]byte, api.MaxFile+1)}}) != nil {
		t.Error("a file that is too long")
	}
	for _, name := range badNames {
		if disk.Of(9, []api.File{{Name: "a"}, {Name: name}}) != nil {
			t.Errorf("name %q", name)
		}
	}
	for _, name := range goodNames {
		if disk.Of(9, []api.File{{Name: name}}) == nil {
			t.Errorf("name %q", name)
		}
	}
}

func TestP11OfIsSynced(t *testing.T) {
	d := disk.Of(9, []api.File{{Name: "a", Data: []byte("12")}, {Name: "b", Data: []byte("3")}})
	done(t, d.Append("a", []byte("45")), d.Create("c"))
	d.Crash(api.Crash{})
	wantNames(t, "of, crash", d, "a", "b")
	wantData(t, "of, crash", d, "a", "12")
	wantData(t, "of, crash", d, "b", "3")
}

func TestP11NamesRise(t *testing.T) {
	d := disk.New(9)
	done(t, d.Create("b"), d.Create("aa"), d.Create("a"), d.Create("."), d.Create("9"), d.Create("10"), d.Create("a.b"))
	wantNames(t, "names", d, ".", "10", "9", "a", "a.b", "aa", "b")
	for i, f := range d.Files() {
		if f.Name != d.Names()[i] {
			t.Errorf("file %d is %s", i, f.Name)
		}
	}
}

func TestP11Read(t *testing.T) {
	d := disk.New(9)
	done(t, d.Create("a"))
	wantData(t, "new file", d, "a", "")
	done(t, d.Append("a", []byte("x\x00")), d.Append("a", []byte("\xffy")))
	wantData(t, "two appends", d, "a", "x\x00\xffy")
	for _, name := range []string{"b", "", "A", strings.Repeat("a", 25)} {
		if b, e := d.Read(name); len(b) != 0 || e != api.ErrNone {
			t.Errorf("read %q: %q, error %d", name, b, e)
		}
	}
}

func TestP11ReadIsNoAct(t *testing.T) {
	d := disk.New(9)
	done(t, d.Create("a"))
	d.Fuse(0)
	wantData(t, "fuse of 0", d, "a", "")
	if d.Acts() != 1 || d.Down() {
		t.Errorf("acts %d, down %v", d.Acts(), d.Down())
	}
}

func TestP11Used(t *testing.T) {
	d := disk.New(20)
	done(t, d.Create("a"), d.Append("a", []byte("123")), d.Create("b"), d.Append("b", []byte("45678")))
	if d.Used() != 8 {
		t.Errorf("used %d", d.Used())
	}
	done(t, d.Rename("a", "b"))
	if d.Used() != 3 {
		t.Errorf("replaced: used %d", d.Used())
	}
	done(t, d.Remove("b"))
	if d.Used() != 0 {
		t.Errorf("removed: used %d", d.Used())
	}
}

func TestP2ErrorsHaveNoResult(t *testing.T) {
	d := disk.Of(9, []api.File{{Name: "a", Data: []byte("12")}})
	if b, e := d.Read("b"); len(b) != 0 || e != api.ErrNone {
		t.Errorf("no file: %q, error %d", b, e)
	}
	d.Fuse(0)
	wantErr(t, "fuse of 0", d.SyncDir(), api.ErrDown)
	if b, e := d.Read("a"); len(b) != 0 || e != api.ErrDown {
		t.Errorf("power off: %q, error %d", b, e)
	}
	if _, e := d.Read("b"); e != api.ErrDown {
		t.Errorf("power off, no file: error %d", e)
	}
}

func TestP3ArgumentsAreNotKept(t *testing.T) {
	back := []byte("12345678")
	l := []api.File{{Name: "a", Data: back[:3]}}
	d := disk.Of(99, l)
	done(t, d.Append("a", []byte("xy")), d.Append("a", back[4:6]))
	if string(back) != "12345678" || l[0].Name != "a" || len(l[0].Data) != 3 {
		t.Errorf("changed: %q", back)
	}
	clear(back)
	l[0] = api.File{Name: "b"}
	wantData(t, "arguments changed later", d, "a", "123xy56")
	wantNames(t, "arguments changed later", d, "a")
	cuts := []int{1, 2, 3}
	d.Crash(api.Crash{Acts: 1, Cuts: cuts[:2]})
	if !slices.Equal(cuts, []int{1, 2, 3}) {
		t.Errorf("cuts %v", cuts)
	}
}

// TestP3AppendKeepsNothing: the first bytes of a file are no more the caller's than those behind them, nor is the spare capacity behind theirs.
func TestP3AppendKeepsNothing(t *testing.T) {
	for _, fresh := range []func() *disk.Disk{
		func() *disk.Disk { d := disk.New(99); done(t, d.Create("a")); return d },
		func() *disk.Disk { return disk.Of(99, []api.File{{Name: "a", Data: []byte{}}}) },
	} {
		d, back := fresh(), []byte("123456")
		done(t, d.Append("a", back[:3]), d.Append("a", []byte("xy")))
		if string(back) != "123456" {
			t.Errorf("spare capacity: %q", back)
		}
		clear(back)
		wantData(t, "changed later", d, "a", "123xy")
		d.Crash(api.Crash{Acts: 1, Cuts: []int{4}})
		done(t, d.Append("a", []byte("z")))
		if string(back) != "\x00\x00\x00\x00\x00\x00" {
			t.Errorf("after a crash: %q", back)
		}
	}
}

// TestP3OfKeepsNothing: an append does not write into the spare capacity of what Of was given.
func TestP3OfKeepsNothing(t *testing.T) {
	back := []byte("123456")
	d := disk.Of(99, []api.File{{Name: "a", Data: back[:2]}, {Name: "b", Data: back[2:4]}})
	done(t, d.Append("a", []byte("xy")))
	if string(back) != "123456" {
		t.Errorf("%q", back)
	}
	wantData(t, "a", d, "a", "12xy")
	wantData(t, "b", d, "b", "34")
}

// TestP3ListsAreNew spoils all that is returned, with its spare capacity: the disk must not notice it.
func TestP3ListsAreNew(t *testing.T) {
	d := disk.Of(99, []api.File{{Name: "a", Data: []byte("123")}, {Name: "b", Data: []byte("45")}})
	done(t, d.Append("a", []byte("6")), d.Create("c"), d.Append("c", []byte("7")))
	spoil := func(b []byte) {
		b = b[:cap(b)]
		for i := range b {
			b[i] = '?'
		}
	}
	spoilAll := func() {
		for range 2 {
			x, _ := d.Read("a")
			spoil(x)
			names := d.Names()
			names = names[:cap(names)]
			for i := range names {
				names[i] = "?"
			}
			files := d.Files()
			for _, f := range files {
				spoil(f.Data)
			}
			files = files[:cap(files)]
			for i := range files {
				files[i] = api.File{Name: "?"}
			}
		}
	}
	spoilAll()
	done(t, d.Append("a", []byte("8")))
	spoilAll()
	if want := []api.File{{Name: "a", Data: []byte("12368")}, {Name: "b", Data: []byte("45")}, {Name: "c", Data: []byte("7")}}; !sameFiles(d.Files(), want) {
		t.Errorf("files %q", d.Files())
	}
	d.Crash(api.Crash{Acts: 1, Cuts: []int{2, 0, 1}})
	spoilAll()
	if want := []api.File{{Name: "a", Data: []byte("12368")}, {Name: "b", Data: []byte("45")}, {Name: "c", Data: []byte("7")}}; !sameFiles(d.Files(), want) {
		t.Errorf("files after a crash %q", d.Files())
	}
}

// TestP3FilesAreApart spoils one list of an answer: the others must not notice it.
func TestP3FilesAreApart(t *testing.T) {
	d := disk.Of(99, []api.File{{Name: "a", Data: []byte("12")}, {Name: "b", Data: []byte("34")}})
	l := d.Files()
	_ = append(l[0].Data, "?????"...)
	clear(l[0].Data)
	if string(l[1].Data) != "34" {
		t.Errorf("%q", l[1].Data)
	}
}

// TestP1NoPanic calls all with all that is odd, with the power on and off.
func TestP1NoPanic(t *testing.T) {
	odd := []int{math.MinInt, math.MinInt + 1, -1, 0, 1, 63, 64, math.MaxInt - 1, math.MaxInt}
	names := append(slices.Clone(badNames), goodNames...)
	for _, room := range odd {
		d := disk.Of(room, []api.File{{Name: "a", Data: []byte("12")}})
		for i, n := range odd {
			for j, name := range names {
				d.Create(name)
				d.Append(name, make([]byte, j))
				d.Sync(name)
				d.Rename(name, names[(i+j)%len(names)])
				d.Rename("a", name)
				if j%3 == 0 {
					d.Remove(name)
					d.SyncDir()
				}
				d.Read(name)
			}
			d.Fuse(n)
			d.Create("b")
			d.Create("c")
			_, _, _, _, _ = d.Names(), d.Files(), d.Used(), d.Acts(), d.Down()
			d.Crash(api.Crash{Acts: n, Cuts: odd[i:]})
			d.Crash(api.Crash{Acts: n})
		}
		if d.Down() {
			t.Error("down after a crash")
		}
	}
}
