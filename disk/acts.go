package disk

import "verbatim/api"

// Create adds a name, with a new file.
func (d *Disk) Create(name string) api.Errno {
	return d.act(func() api.Errno {
		switch {
		case !validName(name):
			return api.ErrArg
		case d.has(name):
			return api.ErrThere
		case len(d.now) >= api.MaxFiles:
			return api.ErrTooMany
		}
		own, f := ownName(name), &file{}
		d.change(func(l directory) { l[own] = f })
		return api.OK
	})
}

// Append puts bytes behind those of a file.
func (d *Disk) Append(name string, b []byte) api.Errno {
	return d.act(func() api.Errno {
		f, ok := d.now[name]
		switch {
		case !ok:
			return api.ErrNone
		case len(b) > api.MaxFile-len(f.data):
			return api.ErrTooMany
		case d.Used() > d.room-len(b):
			return api.ErrFull
		}
		f.data = append(f.data, b...)
		return api.OK
	})
}

// Sync has a file's bytes stay; its name only stays by SyncDir.
func (d *Disk) Sync(name string) api.Errno {
	return d.act(func() api.Errno {
		f, ok := d.now[name]
		if !ok {
			return api.ErrNone
		}
		f.synced = len(f.data)
		return api.OK
	})
}

// Rename gives a file another name, at once: no crash leaves half of it.
func (d *Disk) Rename(from string, to string) api.Errno {
	return d.act(func() api.Errno {
		switch {
		case !validName(to):
			return api.ErrArg
		case !d.has(from):
			return api.ErrNone
		case from == to:
			return api.OK // an act, but no change that a crash could count
		}
		old, own := ownName(from), ownName(to)
		d.change(func(l directory) {
			l[own] = l[old]
			delete(l, old)
		})
		return api.OK
	})
}

// Remove takes a name away.
func (d *Disk) Remove(name string) api.Errno {
	return d.act(func() api.Errno {
		if !d.has(name) {
			return api.ErrNone
		}
		own := ownName(name)
		d.change(func(l directory) { delete(l, own) })
		return api.OK
	})
}

// SyncDir has the directory's names stay; the files' bytes only stay by Sync.
func (d *Disk) SyncDir() api.Errno {
	return d.act(func() api.Errno {
		d.settle()
		return api.OK
	})
}

// act does what all acts have in common: the power and the fuse come first, and only what is done counts.
func (d *Disk) act(try func() api.Errno) api.Errno {
	if d.fuse == 0 {
		d.down = true
	}
	if d.down {
		return api.ErrDown
	}
	if e := try(); e != api.OK {
		return e
	}
	d.acts++
	if d.fuse > 0 {
		d.fuse--
	}
	return api.OK
}

// change keeps what it does, too, since a crash may have to do it once more.
func (d *Disk) change(effect func(directory)) {
	effect(d.now)
	d.changes = append(d.changes, effect)
}
