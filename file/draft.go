package file

import (
	"slices"

	"padlock/api"
	"padlock/bitmap"
	"padlock/inode"
)

// draft is a file that is being changed. Its blocks are written when all else is done, so that a call which can't
// be done has written nothing.
type draft struct {
	store   Store
	g       api.Geometry
	kind    int
	bytes   int
	numbers []int                 // of its blocks, as the function numbers returns them
	changed [api.MaxBlocks][]byte // the blocks to be written, by number
}

// edit changes a file, and returns its new inode.
func edit(s Store, g api.Geometry, in api.Inode, change func(d *draft) api.Errno) (api.Inode, api.Errno) {
	l, err := numbers(s, in)
	if err != api.OK {
		return api.Inode{}, err
	}
	d := &draft{store: s, g: g, kind: in.Kind, bytes: in.Bytes, numbers: l}
	if err := change(d); err != api.OK {
		return api.Inode{}, err
	}
	if err := d.save(); err != api.OK {
		return api.Inode{}, err
	}
	return d.inode(), api.OK
}

func (d *draft) write(off int, b []byte) api.Errno {
	if err := d.resize(max(d.bytes, off+len(b))); err != api.OK {
		return err
	}
	for len(b) > 0 {
		block, err := d.block(numberAt(d.numbers, off))
		if err != api.OK {
			return err
		}
		done := copy(block[off%api.Size:], b)
		off, b = off+done, b[done:]
	}
	return api.OK
}

func (d *draft) resize(bytes int) api.Errno {
	if bytes > d.bytes {
		if err := d.clearTail(); err != api.OK {
			return err
		}
	}
	d.bytes = bytes
	need := inode.Need(bytes)
	if need == len(d.numbers) {
		return api.OK
	}
	if _, err := d.block(bitmapBlock); err != api.OK {
		return err
	}
	d.release(min(need, len(d.numbers)))
	for len(d.numbers) < need {
		if !d.take() {
			return api.ErrNoSpace
		}
	}
	d.nameBlocks()
	return api.OK
}

// clearTail clears what the last block has behind the end of the file, before that becomes a part of the file.
func (d *draft) clearTail() api.Errno {
	used := d.bytes % api.Size
	if used == 0 {
		return api.OK
	}
	block, err := d.block(numberAt(d.numbers, d.bytes))
	if err != api.OK {
		return err
	}
	clear(block[used:])
	return api.OK
}

// release keeps the first blocks, and gives back the others.
func (d *draft) release(keep int) {
	kept, others := d.numbers[:keep], d.numbers[keep:]
	for _, number := range others {
		// An indirect block that is not what was written may name a block twice.
		if !slices.Contains(kept, number) {
			d.mark(number, false)
		}
	}
	d.numbers = kept
}

// take adds a block of zeros. It returns false if none is left.
func (d *draft) take() bool {
	number := bitmap.First(d.changed[bitmapBlock], First(d.g), d.g.Blocks)
	if number < 0 {
		return false
	}
	d.mark(number, true)
	d.numbers = append(d.numbers, number)
	d.changed[number] = make([]byte, api.Size)
	return true
}

// mark changes a bit of the bitmap, which must be among the changed blocks.
func (d *draft) mark(number int, taken bool) {
	d.changed[bitmapBlock], _ = bitmap.Set(d.changed[bitmapBlock], number, taken)
}

// nameBlocks makes the indirect block name those that the inode doesn't, and no other ones.
func (d *draft) nameBlocks() {
	if len(d.numbers) <= api.Direct {
		return
	}
	block := make([]byte, api.Size)
	for i, number := range d.numbers[api.Direct+1:] {
		block[i] = byte(number)
	}
	d.changed[d.numbers[api.Direct]] = block
}

// block returns a block of the store, which may then be changed.
func (d *draft) block(number int) ([]byte, api.Errno) {
	if d.changed[number] == nil {
		block, err := load(d.store, number)
		if err != api.OK {
			return nil, err
		}
		d.changed[number] = slices.Clone(block)
	}
	return d.changed[number], api.OK
}

func (d *draft) save() api.Errno {
	for number, block := range d.changed {
		if block == nil {
			continue
		}
		if err := d.store.Write(number, block); err != api.OK {
			return err
		}
	}
	return api.OK
}

func (d *draft) inode() api.Inode {
	in := api.Inode{Kind: d.kind, Bytes: d.bytes}
	copy(in.Blocks[:], d.numbers)
	if len(d.numbers) > api.Direct {
		in.Indirect = d.numbers[api.Direct]
	}
	return in
}
