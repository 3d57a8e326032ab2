package disk

import (
	"bytes"
	"maps"

	"verbatim/api"
)

// Fuse has the power go ahead of the act behind n more.
func (d *Disk) Fuse(n int) {
	d.fuse = max(n, noFuse)
}

// Crash has what is left be all, and the power come back.
func (d *Disk) Crash(c api.Crash) {
	d.replay(part(c.Acts, len(d.changes)))
	for i, name := range d.now.names() {
		d.now[name].crash(cutAt(c.Cuts, i))
	}
	d.settle()
	d.fuse, d.down = noFuse, false
}

// replay goes back to the directory that was synced, and does its first n changes once more.
func (d *Disk) replay(n int) {
	d.now = maps.Clone(d.synced)
	for _, effect := range d.changes[:n] {
		effect(d.now)
	}
}

// settle has the directory be synced as it is.
func (d *Disk) settle() {
	d.synced = maps.Clone(d.now)
	d.changes = nil
}

// crash leaves a file what was synced and a part of the rest. The bytes are copied, so that what is lost does not stay in memory behind them.
func (f *file) crash(cut int) {
	n := f.synced + part(cut, len(f.data)-f.synced)
	f.data = bytes.Clone(f.data[:n])
	f.synced = n
}

func cutAt(cuts []int, i int) int {
	if i >= len(cuts) {
		return 0
	}
	return cuts[i]
}

// part makes of any number one from 0 to most.
func part(n int, most int) int {
	if n < 0 {
		return 0
	}
	return n % (most + 1)
}
