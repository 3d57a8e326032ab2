package manifest

import (
	"slices"
	"strconv"

	"verbatim/api"
	"verbatim/disk"
)

// The manifest lies under one name, and is written under another one, so that the first is never that of half a manifest.
const (
	current = "man"
	fresh   = "man.new"
)

// Seg is the name of a segment's file.
func Seg(num int64) string { return named("s.", num) }

// Dels is the name of the file of what is deleted.
func Dels(num int64) string { return named("d.", num) }

// Write makes a file with these bytes, all synced; its name only stays by SyncDir.
func Write(d *disk.Disk, name string, b []byte) api.Errno {
	var l []func() api.Errno
	if slices.Contains(d.Names(), name) {
		l = append(l, func() api.Errno { return d.Remove(name) })
	}
	l = append(l,
		func() api.Errno { return d.Create(name) },
		func() api.Errno { return d.Append(name, b) },
		func() api.Errno { return d.Sync(name) },
	)
	return do(l...)
}

// Save has a manifest be the one that Load answers, at once: no crash leaves half of it.
func Save(d *disk.Disk, m api.Manifest) api.Errno {
	b, e := Put(m)
	if e != api.OK {
		return e
	}
	return do(
		func() api.Errno { return Write(d, fresh, b) },
		d.SyncDir,
		func() api.Errno { return d.Rename(fresh, current) },
		d.SyncDir,
	)
}

// Load is the manifest that was saved.
func Load(d *disk.Disk) (api.Manifest, api.Errno) {
	b, e := d.Read(current)
	if e != api.OK {
		return api.Manifest{}, e
	}
	return Get(b)
}

// Clean removes all files that a manifest does not name, such as a crash may have left.
func Clean(d *disk.Disk, m api.Manifest) api.Errno {
	keep := files(m)
	var l []func() api.Errno
	for _, name := range d.Names() {
		if !slices.Contains(keep, name) {
			l = append(l, func() api.Errno { return d.Remove(name) })
		}
	}
	if len(l) > 0 {
		l = append(l, d.SyncDir)
	}
	return do(l...)
}

// do takes steps one after the other, up to the first one that fails.
func do(steps ...func() api.Errno) api.Errno {
	for _, step := range steps {
		if e := step(); e != api.OK {
			return e
		}
	}
	return api.OK
}

// files are the names of a manifest's own file and of all that it names.
func files(m api.Manifest) []string {
	l := []string{current}
	for _, r := range m.Refs {
		l = append(l, Seg(r.Num))
		if r.Dels != 0 {
			l = append(l, Dels(r.Dels))
		}
	}
	return l
}

func named(kind string, num int64) string { return kind + strconv.FormatInt(num, 10) }
