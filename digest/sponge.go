package digest

import "assize/api"

const (
	blockSize = 136 // bytes of a block
	laneSize  = 8   // bytes of a lane

	// The padding begins with the first of these bytes and ends with the second one, which may be the same byte.
	padBegin = 6
	padEnd   = 128
)

// sponge hashes a message that is written in parts.
type sponge struct {
	state  lanes
	block  [blockSize]byte // the beginning of a block that is not complete
	filled int             // how many bytes of it are written
}

// write adds bytes to the message.
func (s *sponge) write(b []byte) {
	for len(b) > 0 {
		n := copy(s.block[s.filled:], b)
		b = b[n:]
		s.filled += n
		if s.filled == blockSize {
			s.absorb()
		}
	}
}

// finish pads the message and returns its hash.
func (s *sponge) finish() (d api.Digest) {
	// A complete block is absorbed at once, so that there is room for one byte at least.
	clear(s.block[s.filled:])
	s.block[s.filled] = padBegin
	s.block[blockSize-1] ^= padEnd
	s.absorb()
	for i := range d {
		d[i] = byte(s.state[i/laneSize] >> (8 * (i % laneSize)))
	}
	return d
}

// absorb adds the block to the state, and begins the next one.
func (s *sponge) absorb() {
	for i := range blockSize / laneSize {
		s.state[i] ^= lane(s.block[i*laneSize : (i+1)*laneSize])
	}
	s.state.permute()
	s.filled = 0
}

// lane returns the number that eight bytes stand for, the least significant one first. It is one expression because
// the compiler makes a single load of it.
func lane(b []byte) uint64 {
	return uint64(b[0]) | uint64(b[1])<<8 | uint64(b[2])<<16 | uint64(b[3])<<24 |
		uint64(b[4])<<32 | uint64(b[5])<<40 | uint64(b[6])<<48 | uint64(b[7])<<56
}
