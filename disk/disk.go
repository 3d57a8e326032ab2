// Package disk simulates a directory of files on a disk that loses at a crash what was not synced: see shared/doc/01-disk.md.
package disk

import (
	"bytes"
	"maps"
	"slices"
	"strings"

	"verbatim/api"
)

// noFuse stands for a fuse that is none: a fuse of 0 is one that is about to go.
const noFuse = -1

// file is apart from its name, so that a name that comes back at a crash, or moves, has the bytes that were written meanwhile.
type file struct {
	data   []byte
	synced int
}

type directory map[string]*file

// Disk is a directory of files, of which the power may go.
type Disk struct {
	room    int
	now     directory
	synced  directory
	changes []func(directory)
	acts    int
	fuse    int
	down    bool
}

// New is an empty disk of so much room.
func New(room int) *Disk {
	return &Disk{room: max(room, 0), now: directory{}, synced: directory{}, fuse: noFuse}
}

// Of is a disk that has these files, all synced, or nil if they can't be on one.
func Of(room int, l []api.File) *Disk {
	if len(l) > api.MaxFiles {
		return nil
	}
	d := New(room)
	for _, f := range l {
		if !validName(f.Name) || d.has(f.Name) || len(f.Data) > api.MaxFile {
			return nil
		}
		d.now[ownName(f.Name)] = &file{data: bytes.Clone(f.Data), synced: len(f.Data)}
	}
	d.settle()
	return d
}

// Names are the directory's, rising.
func (d *Disk) Names() []string {
	return d.now.names()
}

// Files are all, by rising names, as plain data.
func (d *Disk) Files() []api.File {
	l := make([]api.File, 0, len(d.now))
	for _, name := range d.now.names() {
		l = append(l, api.File{Name: name, Data: bytes.Clone(d.now[name].data)})
	}
	return l
}

// Used is how much room the directory's files use.
func (d *Disk) Used() int {
	n := 0
	for _, f := range d.now {
		n += len(f.data)
	}
	return n
}

// Acts is how many acts were done.
func (d *Disk) Acts() int {
	return d.acts
}

// Down tells whether the power is off.
func (d *Disk) Down() bool {
	return d.down
}

// Read is a file's bytes. It changes nothing, so it is no act: a fuse does not meet it.
func (d *Disk) Read(name string) ([]byte, api.Errno) {
	if d.down {
		return nil, api.ErrDown
	}
	f, ok := d.now[name]
	if !ok {
		return nil, api.ErrNone
	}
	return bytes.Clone(f.data), api.OK
}

func (d *Disk) has(name string) bool {
	_, ok := d.now[name]
	return ok
}

func (l directory) names() []string {
	return slices.Sorted(maps.Keys(l))
}

func validName(name string) bool {
	if len(name) < 1 || len(name) > api.MaxName {
		return false
	}
	for i := range len(name) {
		if !validByte(name[i]) {
			return false
		}
	}
	return true
}

func validByte(c byte) bool {
	return 'a' <= c && c <= 'z' || '0' <= c && c <= '9' || c == '.'
}

// ownName is what the directory keeps: a name may be a piece of a long text of the caller's, which must not live on with it.
func ownName(name string) string {
	return strings.Clone(name)
}
