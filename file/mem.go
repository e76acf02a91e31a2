package file

import (
	"slices"

	"padlock/api"
	"padlock/bitmap"
)

// Mem is a store in memory.
type Mem struct{ blocks [][]byte }

// NewMem returns a store whose blocks below First are taken, and which has nothing else.
func NewMem(g api.Geometry) (*Mem, api.Errno) {
	if !May(g) {
		return nil, api.ErrArg
	}
	m := &Mem{}
	for range g.Blocks {
		m.blocks = append(m.blocks, make([]byte, api.Size))
	}
	for i := range First(g) {
		m.blocks[bitmapBlock], _ = bitmap.Set(m.blocks[bitmapBlock], i, true)
	}
	return m, api.OK
}

// Read returns block i.
func (m *Mem) Read(i int) ([]byte, api.Errno) {
	if !m.has(i) {
		return nil, api.ErrArg
	}
	return slices.Clone(m.blocks[i]), api.OK
}

// Write replaces block i.
func (m *Mem) Write(i int, b []byte) api.Errno {
	if !m.has(i) || len(b) != api.Size {
		return api.ErrArg
	}
	copy(m.blocks[i], b)
	return api.OK
}

func (m *Mem) has(i int) bool {
	return m != nil && i >= 0 && i < len(m.blocks)
}
