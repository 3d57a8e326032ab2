package disk_test

import (
	"math"
	"strconv"
	"strings"
	"testing"

	"verbatim/api"
	"verbatim/disk"
)

func TestP11CreateNames(t *testing.T) {
	for _, name := range goodNames {
		d := disk.New(0)
		wantErr(t, "create "+name, d.Create(name), api.OK)
		wantNames(t, "create "+name, d, name)
		wantErr(t, "create once more "+name, d.Create(name), api.ErrThere)
		if d.Acts() != 1 {
			t.Errorf("%s: acts %d", name, d.Acts())
		}
	}
	d := disk.New(0)
	for _, name := range badNames {
		wantErr(t, "create "+strconv.Quote(name), d.Create(name), api.ErrArg)
	}
	if d.Acts() != 0 || len(d.Names()) != 0 {
		t.Errorf("acts %d, names %q", d.Acts(), d.Names())
	}
}

// TestP11NameBytes tries each byte there is, alone and behind others.
func TestP11NameBytes(t *testing.T) {
	for i := range 256 {
		want := api.ErrArg
		if strings.IndexByte("abcdefghijklmnopqrstuvwxyz0123456789.", byte(i)) >= 0 {
			want = api.OK
		}
		name := string([]byte{byte(i)})
		wantErr(t, strconv.Quote(name), disk.New(0).Create(name), want)
		name = "ab" + name
		wantErr(t, strconv.Quote(name), disk.New(0).Create(name), want)
		name = name[1:] + "b"
		wantErr(t, strconv.Quote(name), disk.New(0).Create(name), want)
	}
}

func TestP11CreateMany(t *testing.T) {
	d := disk.New(0)
	for i := range api.MaxFiles {
		wantErr(t, "file "+strconv.Itoa(i), d.Create("f"+strconv.Itoa(i)), api.OK)
	}
	wantErr(t, "one more", d.Create("more"), api.ErrTooMany)
	wantErr(t, "one that is there, before too many", d.Create("f0"), api.ErrThere)
	wantErr(t, "one that is not valid, before too many", d.Create("F"), api.ErrArg)
	wantErr(t, "rename, full", d.Rename("f0", "g"), api.OK)
	wantErr(t, "one more", d.Create("more"), api.ErrTooMany)
	done(t, d.Rename("g", "f1"))
	wantErr(t, "room for a name once more", d.Create("more"), api.OK)
	wantErr(t, "one more", d.Create("more2"), api.ErrTooMany)
	done(t, d.Remove("more"), d.Create("more2"))
	if len(d.Names()) != api.MaxFiles || d.Acts() != api.MaxFiles+5 {
		t.Errorf("%d names, %d acts", len(d.Names()), d.Acts())
	}
}

// TestP11CreateIsNew: a file that is created once more has none of the old one's bytes.
func TestP11CreateIsNew(t *testing.T) {
	d := disk.New(9)
	done(t, d.Create("a"), d.Append("a", []byte("old")), d.Remove("a"), d.Create("a"))
	wantData(t, "once more", d, "a", "")
}

func TestP11AppendLong(t *testing.T) {
	d := disk.New(math.MaxInt)
	done(t, d.Create("a"), d.Create("b"))
	wantErr(t, "at once, too long", d.Append("a", make([]byte, api.MaxFile+1)), api.ErrTooMany)
	wantErr(t, "at once", d.Append("a", make([]byte, api.MaxFile)), api.OK)
	wantErr(t, "no bytes behind them", d.Append("a", nil), api.OK)
	wantErr(t, "a byte behind them", d.Append("a", []byte("x")), api.ErrTooMany)
	done(t, d.Append("b", make([]byte, api.MaxFile-1)))
	wantErr(t, "two bytes where one may be", d.Append("b", make([]byte, 2)), api.ErrTooMany)
	wantErr(t, "one byte where one may be", d.Append("b", make([]byte, 1)), api.OK)
	if d.Used() != 2*api.MaxFile || d.Acts() != 6 {
		t.Errorf("used %d, acts %d", d.Used(), d.Acts())
	}
}

func TestP11AppendFull(t *testing.T) {
	d := disk.New(10)
	done(t, d.Create("a"), d.Create("b"), d.Append("a", []byte("123456")))
	wantErr(t, "a byte too many", d.Append("b", []byte("12345")), api.ErrFull)
	wantErr(t, "to the byte", d.Append("b", []byte("1234")), api.OK)
	wantErr(t, "full", d.Append("a", []byte("1")), api.ErrFull)
	wantErr(t, "full, no bytes", d.Append("a", nil), api.OK)
	done(t, d.Rename("a", "c"))
	wantErr(t, "renamed", d.Append("c", []byte("7")), api.ErrFull)
	done(t, d.Remove("b"))
	wantErr(t, "removed, to the byte", d.Append("c", []byte("7890")), api.OK)
	wantErr(t, "full", d.Append("c", []byte("1")), api.ErrFull)
}

func TestP11AppendOrder(t *testing.T) {
	d := disk.New(1)
	long := make([]byte, api.MaxFile+1)
	wantErr(t, "no file, too long", d.Append("a", long), api.ErrNone)
	wantErr(t, "no file, full", d.Append("a", long[:2]), api.ErrNone)
	wantErr(t, "not valid", d.Append("A", nil), api.ErrNone)
	done(t, d.Create("a"))
	wantErr(t, "too long and full", d.Append("a", long), api.ErrTooMany)
	wantErr(t, "full", d.Append("a", long[:api.MaxFile]), api.ErrFull)
}

func TestP11Sync(t *testing.T) {
	d := disk.New(9)
	for _, name := range []string{"a", "", "A"} {
		wantErr(t, "sync "+name, d.Sync(name), api.ErrNone)
	}
	done(t, d.Create("a"), d.Append("a", []byte("12")))
	wantErr(t, "sync", d.Sync("a"), api.OK)
	wantErr(t, "sync once more", d.Sync("a"), api.OK)
	wantData(t, "sync", d, "a", "12")
	if d.Acts() != 4 {
		t.Errorf("acts %d", d.Acts())
	}
}

func TestP11Rename(t *testing.T) {
	d := disk.New(9)
	done(t, d.Create("a"), d.Append("a", []byte("12")), d.Create("b"), d.Append("b", []byte("3")))
	for _, to := range badNames {
		wantErr(t, "to "+strconv.Quote(to), d.Rename("a", to), api.ErrArg)
		wantErr(t, "of none, to "+strconv.Quote(to), d.Rename("x", to), api.ErrArg)
	}
	wantErr(t, "of one that is not valid", d.Rename("A", "c"), api.ErrNone)
	wantErr(t, "of none", d.Rename("x", "c"), api.ErrNone)
	wantErr(t, "of none, to the same", d.Rename("x", "x"), api.ErrNone)
	wantErr(t, "to the same that is not valid", d.Rename("A", "A"), api.ErrArg)
	wantNames(t, "refused", d, "a", "b")
	wantErr(t, "to a new one", d.Rename("a", "c"), api.OK)
	wantNames(t, "to a new one", d, "b", "c")
	wantErr(t, "to one that is there", d.Rename("c", "b"), api.OK)
	wantNames(t, "to one that is there", d, "b")
	wantData(t, "to one that is there", d, "b", "12")
	if d.Acts() != 6 {
		t.Errorf("acts %d", d.Acts())
	}
}

func TestP11RenameToTheSame(t *testing.T) {
	d := disk.New(9)
	done(t, d.Create("a"), d.Append("a", []byte("12")))
	wantErr(t, "to the same", d.Rename("a", "a"), api.OK)
	wantNames(t, "to the same", d, "a")
	wantData(t, "to the same", d, "a", "12")
	if d.Acts() != 3 {
		t.Errorf("acts %d: it is an act", d.Acts())
	}
	d.Fuse(1)
	wantErr(t, "to the same", d.Rename("a", "a"), api.OK)
	wantErr(t, "the fuse is gone", d.Rename("a", "a"), api.ErrDown)
}

func TestP11Remove(t *testing.T) {
	d := disk.New(9)
	done(t, d.Create("a"), d.Create("b"))
	wantErr(t, "none", d.Remove("c"), api.ErrNone)
	wantErr(t, "not valid", d.Remove("?"), api.ErrNone)
	wantErr(t, "one", d.Remove("a"), api.OK)
	wantErr(t, "once more", d.Remove("a"), api.ErrNone)
	wantNames(t, "removed", d, "b")
	if _, e := d.Read("a"); e != api.ErrNone {
		t.Errorf("read: error %d", e)
	}
	if d.Acts() != 3 {
		t.Errorf("acts %d", d.Acts())
	}
}

func TestP11SyncDir(t *testing.T) {
	d := disk.New(9)
	wantErr(t, "empty", d.SyncDir(), api.OK)
	done(t, d.Create("a"))
	wantErr(t, "a", d.SyncDir(), api.OK)
	wantErr(t, "once more", d.SyncDir(), api.OK)
	if d.Acts() != 4 {
		t.Errorf("acts %d", d.Acts())
	}
}

// sixActs are one of each kind, that succeed on a disk with the files a and b.
func sixActs(d *disk.Disk) []func() api.Errno {
	return []func() api.Errno{
		func() api.Errno { return d.Create("c") },
		func() api.Errno { return d.Append("a", []byte("x")) },
		func() api.Errno { return d.Sync("a") },
		func() api.Errno { return d.Rename("b", "e") },
		func() api.Errno { return d.Remove("c") },
		d.SyncDir,
	}
}

func TestP11FuseCountsAllActs(t *testing.T) {
	for n := range 7 {
		d := disk.Of(9, []api.File{{Name: "a"}, {Name: "b"}})
		d.Fuse(n)
		for i, act := range sixActs(d) {
			want := api.OK
			if i >= n {
				want = api.ErrDown
			}
			wantErr(t, "fuse "+strconv.Itoa(n)+", act "+strconv.Itoa(i), act(), want)
			if d.Down() != (i >= n) {
				t.Errorf("fuse %d, act %d: down %v", n, i, d.Down())
			}
		}
		if d.Acts() != n {
			t.Errorf("fuse %d: acts %d", n, d.Acts())
		}
	}
}

// refused are calls that return an error other than ErrDown on a disk with the files a and b and no room left.
func refused(d *disk.Disk) map[api.Errno][]func() api.Errno {
	long := make([]byte, api.MaxFile+1)
	return map[api.Errno][]func() api.Errno{
		api.ErrArg:     {func() api.Errno { return d.Create("") }, func() api.Errno { return d.Rename("a", "?") }},
		api.ErrThere:   {func() api.Errno { return d.Create("a") }},
		api.ErrTooMany: {func() api.Errno { return d.Append("a", long) }},
		api.ErrFull:    {func() api.Errno { return d.Append("a", long[:1]) }},
		api.ErrNone: {
			func() api.Errno { return d.Append("x", nil) },
			func() api.Errno { return d.Sync("x") },
			func() api.Errno { return d.Rename("x", "y") },
			func() api.Errno { return d.Remove("x") },
			func() api.Errno { _, e := d.Read("x"); return e },
		},
	}
}

func TestP11FuseIgnoresWhatIsRefused(t *testing.T) {
	d := disk.Of(2, []api.File{{Name: "a", Data: []byte("12")}, {Name: "b"}})
	d.Fuse(2)
	for range 2 {
		for want, l := range refused(d) {
			for _, call := range l {
				wantErr(t, "refused", call(), want)
			}
		}
		wantErr(t, "an act", d.Sync("a"), api.OK)
	}
	if d.Down() || d.Acts() != 2 {
		t.Errorf("down %v, acts %d", d.Down(), d.Acts())
	}
	wantErr(t, "one more, refused otherwise", d.Create(""), api.ErrDown)
	if !d.Down() || d.Acts() != 2 {
		t.Errorf("down %v, acts %d", d.Down(), d.Acts())
	}
}

// TestP11FuseOfNone: with a fuse of 0 the power goes ahead of any act, those that would be refused too, and not sooner.
func TestP11FuseOfNone(t *testing.T) {
	for want := range refused(disk.New(0)) {
		for i := range refused(disk.New(0))[want] {
			d := disk.Of(2, []api.File{{Name: "a", Data: []byte("12")}, {Name: "b"}})
			d.Fuse(0)
			if d.Down() {
				t.Error("down ahead of an act")
			}
			e := refused(d)[want][i]()
			if read := want == api.ErrNone && i == 4; read != (e == api.ErrNone) || !read && e != api.ErrDown || d.Down() == read {
				t.Errorf("error %d in place of %d, down %v", e, want, d.Down())
			}
		}
	}
}

func TestP11FuseIsSetAnew(t *testing.T) {
	d := disk.New(9)
	d.Fuse(0)
	d.Fuse(1)
	wantErr(t, "one", d.Create("a"), api.OK)
	d.Fuse(2)
	wantErr(t, "one of two", d.Create("b"), api.OK)
	d.Fuse(1)
	wantErr(t, "one", d.Create("c"), api.OK)
	for _, n := range []int{-1, math.MinInt} {
		d.Fuse(0)
		d.Fuse(n)
		for range 20 {
			wantErr(t, "no fuse", d.SyncDir(), api.OK)
		}
	}
	d.Fuse(math.MaxInt)
	wantErr(t, "a long fuse", d.SyncDir(), api.OK)
	d.Fuse(0)
	wantErr(t, "none left", d.SyncDir(), api.ErrDown)
}

// TestP11FuseDoesNotBringPowerBack: only a crash does.
func TestP11FuseDoesNotBringPowerBack(t *testing.T) {
	d := disk.New(9)
	d.Fuse(0)
	wantErr(t, "fuse", d.SyncDir(), api.ErrDown)
	for _, n := range []int{-1, 5, 0} {
		d.Fuse(n)
		wantErr(t, "a fuse while the power is off", d.SyncDir(), api.ErrDown)
		if !d.Down() {
			t.Error("the power is on")
		}
	}
	d.Crash(api.Crash{})
	for range 9 {
		wantErr(t, "after a crash there is no fuse", d.SyncDir(), api.OK)
	}
}

func TestP11Down(t *testing.T) {
	d := disk.Of(9, []api.File{{Name: "a", Data: []byte("12")}, {Name: "b"}})
	done(t, d.Append("a", []byte("3")), d.Create("c"))
	d.Fuse(0)
	before := stateOf(d)
	before.down = true
	for range 2 {
		for i, act := range sixActs(d) {
			wantErr(t, "act "+strconv.Itoa(i), act(), api.ErrDown)
			if !stateOf(d).same(before) {
				t.Errorf("act %d: a change while the power is off", i)
			}
		}
	}
	for _, l := range refused(d) {
		for _, call := range l {
			wantErr(t, "what is refused, too", call(), api.ErrDown)
		}
	}
	if b, e := d.Read("a"); len(b) != 0 || e != api.ErrDown {
		t.Errorf("read: %q, error %d", b, e)
	}
	wantNames(t, "names while the power is off", d, "a", "b", "c")
	if d.Used() != 3 || d.Acts() != 2 {
		t.Errorf("used %d, acts %d", d.Used(), d.Acts())
	}
}

func TestP13ErrorsChangeNothing(t *testing.T) {
	d := disk.Of(2, []api.File{{Name: "a", Data: []byte("12")}, {Name: "b"}})
	before := stateOf(d)
	for want, l := range refused(d) {
		for i, call := range l {
			wantErr(t, "refused", call(), want)
			if !stateOf(d).same(before) {
				t.Errorf("error %d, call %d: a change", want, i)
			}
		}
	}
}

// TestP13ErrorsLeaveNoTrace: a crash tells whether a call that was refused left a change of the directory, or synced something.
func TestP13ErrorsLeaveNoTrace(t *testing.T) {
	for acts := range 3 {
		for cut := range 3 {
			var got [2][]api.File
			for i := range 2 {
				d := disk.Of(2, []api.File{{Name: "a", Data: []byte("1")}, {Name: "b"}})
				done(t, d.Append("a", []byte("2")), d.Rename("b", "c"), d.Create("b"))
				if i == 1 {
					for _, l := range refused(d) {
						for _, call := range l {
							call()
						}
					}
					d.Fuse(0)
					for _, act := range sixActs(d) {
						wantErr(t, "power off", act(), api.ErrDown)
					}
				}
				d.Crash(api.Crash{Acts: acts, Cuts: []int{cut}})
				got[i] = d.Files()
			}
			if !sameFiles(got[0], got[1]) {
				t.Errorf("acts %d, cut %d: %q, without refused calls %q", acts, cut, got[1], got[0])
			}
		}
	}
}
