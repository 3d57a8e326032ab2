package disk_test

import (
	"math"
	"slices"
	"strconv"
	"strings"
	"testing"

	"verbatim/api"
	"verbatim/disk"
)

func TestP12Example(t *testing.T) {
	d := disk.New(9)
	done(t, d.Create("a"), d.SyncDir(), d.Create("b"))
	d.Crash(api.Crash{})
	wantNames(t, "example", d, "a")
}

// TestP12SyncedFileOfNoName: the first of the ten examples of the whole system.
func TestP12SyncedFileOfNoName(t *testing.T) {
	d := disk.New(9)
	done(t, d.Create("a"), d.Append("a", []byte("12")), d.Sync("a"))
	d.Crash(api.Crash{})
	wantNames(t, "the name was not synced", d)
	d = disk.New(9)
	done(t, d.Create("a"), d.Append("a", []byte("12")), d.Sync("a"))
	d.Crash(api.Crash{Acts: 1})
	wantData(t, "the name is there", d, "a", "12")
}

// TestP12SyncedNameOfNoBytes: SyncDir syncs no file.
func TestP12SyncedNameOfNoBytes(t *testing.T) {
	d := disk.New(9)
	done(t, d.Create("a"), d.Append("a", []byte("12")), d.SyncDir())
	d.Crash(api.Crash{})
	wantData(t, "the bytes were not synced", d, "a", "")
}

func TestP12NoChanges(t *testing.T) {
	for _, acts := range []int{math.MinInt, -1, 0, 1, 7, math.MaxInt} {
		d := disk.Of(9, []api.File{{Name: "a", Data: []byte("12")}})
		done(t, d.SyncDir(), d.Sync("a"), d.Append("a", nil), d.Rename("a", "a"))
		d.Crash(api.Crash{Acts: acts, Cuts: []int{1, 1}})
		wantNames(t, "no changes", d, "a")
		wantData(t, "no changes", d, "a", "12")
	}
}

// TestP12EachNumberOfChanges has four changes, among them one that replaces a file, and acts between them that are no changes of the directory.
func TestP12EachNumberOfChanges(t *testing.T) {
	want := [][]string{{"a=1", "b=2"}, {"a=1", "b=2", "c=3"}, {"b=1", "c=3"}, {"b=1"}, {"b=1", "c="}}
	acts := []int{-1, -5, math.MinInt, 0, 1, 2, 3, 4, 5, 6, 9, 10, 14, math.MaxInt}
	for _, n := range acts {
		d := disk.Of(99, []api.File{{Name: "a", Data: []byte("1")}, {Name: "b", Data: []byte("2")}})
		done(t,
			d.Sync("a"), d.Create("c"), d.Append("c", []byte("3")), d.Sync("c"), d.Rename("c", "c"),
			d.Rename("a", "b"), d.Sync("b"), d.Remove("c"), d.Append("b", nil), d.Create("c"))
		d.Crash(api.Crash{Acts: n})
		i := 0
		if n > 0 {
			i = n % len(want)
		}
		var got []string
		for _, f := range d.Files() {
			got = append(got, f.Name+"="+string(f.Data))
		}
		if !slices.Equal(got, want[i]) {
			t.Errorf("acts %d: %q, want %q", n, got, want[i])
		}
	}
}

// TestP12ChangesBeginAnew: SyncDir, and a crash, leave no changes behind.
func TestP12ChangesBeginAnew(t *testing.T) {
	d := disk.New(9)
	done(t, d.Create("a"), d.Create("b"), d.SyncDir(), d.Remove("a"))
	d.Crash(api.Crash{Acts: 2})
	wantNames(t, "one change: 2 is 0", d, "a", "b")
	d.Crash(api.Crash{Acts: 1})
	wantNames(t, "no change is left", d, "a", "b")
	done(t, d.Remove("b"))
	d.Crash(api.Crash{Acts: 1})
	wantNames(t, "one change", d, "a")
}

func TestP12Cuts(t *testing.T) {
	for _, x := range []struct {
		cut  int
		want string
	}{
		{math.MinInt, "12"}, {-1, "12"}, {0, "12"}, {1, "123"}, {2, "1234"}, {3, "12345"},
		{4, "12"}, {5, "123"}, {7, "12345"}, {8, "12"}, {math.MaxInt, "12345"},
	} {
		d := disk.New(99)
		done(t, d.Create("a"), d.SyncDir(), d.Append("a", []byte("12")), d.Sync("a"), d.Append("a", []byte("3")), d.Append("a", []byte("45")))
		d.Crash(api.Crash{Cuts: []int{x.cut}})
		wantData(t, "cut "+strconv.Itoa(x.cut), d, "a", x.want)
		if d.Used() != len(x.want) {
			t.Errorf("cut %d: used %d", x.cut, d.Used())
		}
	}
}

func TestP12CutsThatAreMissing(t *testing.T) {
	want := [][]string{{"", "", ""}, {"1", "", ""}, {"1", "12", ""}, {"1", "12", "123"}, {"1", "12", "123"}}
	for n, l := range want {
		d := disk.New(99)
		for _, name := range []string{"c", "a", "b"} {
			done(t, d.Create(name), d.Append(name, []byte("123")))
		}
		done(t, d.SyncDir())
		d.Crash(api.Crash{Cuts: []int{1, 2, 3, 1}[:n]})
		for i, name := range []string{"a", "b", "c"} {
			wantData(t, strconv.Itoa(n)+" cuts", d, name, l[i])
		}
	}
}

// TestP12CutsByPlace: a cut belongs to the place of a name after the crash, not before it.
func TestP12CutsByPlace(t *testing.T) {
	d := disk.New(99)
	done(t, d.Create("b"), d.Append("b", []byte("1234")), d.Create("d"), d.Append("d", []byte("5678")), d.SyncDir(), d.Create("a"), d.Append("a", []byte("9")), d.Rename("d", "c"))
	d.Crash(api.Crash{Cuts: []int{1, 2, 3}})
	wantNames(t, "no change", d, "b", "d")
	wantData(t, "no change", d, "b", "1")
	wantData(t, "no change", d, "d", "56")
}

// TestP12FileIsNotItsName: what was written and synced under one name is there under the other.
func TestP12FileIsNotItsName(t *testing.T) {
	for acts, want := range []string{"a", "b"} {
		d := disk.New(99)
		done(t, d.Create("a"), d.SyncDir(), d.Append("a", []byte("12")), d.Rename("a", "b"), d.Append("b", []byte("34")), d.Sync("b"), d.Append("b", []byte("56")))
		d.Crash(api.Crash{Acts: acts, Cuts: []int{1}})
		wantNames(t, "renamed", d, want)
		wantData(t, "renamed", d, want, "12345")
	}
}

// TestP12RemovedFileComesBack: a new file of its name does not touch the old one's bytes.
func TestP12RemovedFileComesBack(t *testing.T) {
	for acts, want := range [][]string{{"a", "old"}, {}, {"a", "new"}} {
		d := disk.Of(99, []api.File{{Name: "a", Data: []byte("old")}})
		done(t, d.Remove("a"), d.Create("a"), d.Append("a", []byte("new!")), d.Sync("a"), d.Append("a", []byte("?")))
		if acts == 2 {
			want = []string{"a", "new!"}
		}
		d.Crash(api.Crash{Acts: acts})
		if len(want) == 0 {
			wantNames(t, "removed", d)
			continue
		}
		wantNames(t, "there", d, want[0])
		wantData(t, "there", d, want[0], want[1])
	}
}

func TestP12ReplacedFileComesBack(t *testing.T) {
	d := disk.Of(99, []api.File{{Name: "a", Data: []byte("1")}, {Name: "b", Data: []byte("2")}})
	done(t, d.Rename("a", "b"), d.Append("b", []byte("3")))
	d.Crash(api.Crash{Cuts: []int{1, 1}})
	wantData(t, "replaced", d, "a", "13")
	wantData(t, "replaced", d, "b", "2")
}

// TestP12Chain: what a crash does once more, it does with the files of then, over and over.
func TestP12Chain(t *testing.T) {
	for acts, want := range []string{"a", "b", "c", "a", "d"} {
		d := disk.Of(99, []api.File{{Name: "a", Data: []byte("1")}})
		done(t, d.Rename("a", "b"), d.Rename("b", "c"), d.Rename("c", "a"), d.Rename("a", "d"))
		d.Crash(api.Crash{Acts: acts})
		wantNames(t, "chain", d, want)
		wantData(t, "chain", d, want, "1")
	}
}

func TestP12TwoCrashes(t *testing.T) {
	d := disk.New(99)
	done(t, d.Create("a"), d.Append("a", []byte("1234")), d.Create("b"), d.Append("b", []byte("56")))
	d.Crash(api.Crash{Acts: 2, Cuts: []int{3, 1}})
	wantData(t, "one crash", d, "a", "123")
	wantData(t, "one crash", d, "b", "5")
	for _, acts := range []int{0, 1, 2, -1} {
		d.Crash(api.Crash{Acts: acts})
		wantNames(t, "all was synced", d, "a", "b")
		wantData(t, "all was synced", d, "a", "123")
		wantData(t, "all was synced", d, "b", "5")
	}
	d.Crash(api.Crash{Acts: 1, Cuts: []int{1, 1}})
	wantData(t, "nothing is not synced", d, "a", "123")
	done(t, d.Append("a", []byte("789")), d.Create("c"))
	d.Crash(api.Crash{Acts: 1, Cuts: []int{2}})
	wantNames(t, "after more", d, "a", "b", "c")
	wantData(t, "after more", d, "a", "12378")
}

func TestP11CrashKeepsActsAndRoom(t *testing.T) {
	d := disk.New(5)
	done(t, d.Create("a"), d.Append("a", []byte("12345")), d.SyncDir())
	d.Fuse(0)
	wantErr(t, "fuse", d.Create("b"), api.ErrDown)
	d.Crash(api.Crash{Cuts: []int{3}})
	if d.Acts() != 3 || d.Down() || d.Used() != 3 {
		t.Errorf("acts %d, down %v, used %d", d.Acts(), d.Down(), d.Used())
	}
	wantErr(t, "a byte too many", d.Append("a", []byte("678")), api.ErrFull)
	wantErr(t, "to the byte", d.Append("a", []byte("67")), api.OK)
	wantData(t, "to the byte", d, "a", "12367")
	if d.Acts() != 4 {
		t.Errorf("acts %d", d.Acts())
	}
}

func TestP11CrashTakesTheFuseAway(t *testing.T) {
	d := disk.New(5)
	d.Fuse(2)
	done(t, d.Create("a"))
	d.Crash(api.Crash{})
	for range 5 {
		wantErr(t, "no fuse", d.SyncDir(), api.OK)
	}
}

// TestP11CrashBringsNamesBack: names that come back at a crash count among those that may be.
func TestP11CrashBringsNamesBack(t *testing.T) {
	d := disk.Of(0, numbered(api.MaxFiles))
	done(t, d.Remove("f1"), d.Create("g"), d.Remove("f2"))
	d.Crash(api.Crash{})
	if len(d.Names()) != api.MaxFiles {
		t.Errorf("%d names", len(d.Names()))
	}
	wantErr(t, "one more", d.Create("g"), api.ErrTooMany)
	done(t, d.Remove("f1"))
	d.Crash(api.Crash{Acts: 1})
	wantErr(t, "one in its place", d.Create("g"), api.OK)
}

// TestP12LongFile: the bound of a file holds for what a crash left of it.
func TestP12LongFile(t *testing.T) {
	d := disk.New(math.MaxInt)
	long := strings.Repeat("x", api.MaxFile)
	done(t, d.Create("a"), d.SyncDir(), d.Append("a", []byte(long)))
	d.Crash(api.Crash{Cuts: []int{api.MaxFile - 1}})
	wantData(t, "all but one", d, "a", long[1:])
	wantErr(t, "two more", d.Append("a", []byte("yz")), api.ErrTooMany)
	wantErr(t, "one more", d.Append("a", []byte("y")), api.OK)
	d.Crash(api.Crash{Cuts: []int{3}})
	wantData(t, "3 modulo 2", d, "a", long[1:]+"y")
}
