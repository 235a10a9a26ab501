package digest

import "math/bits"

const (
	rounds = 24
	side   = 5 // lanes of a row, and rows
)

// lanes is the state of the hash function: L(x, y) is the element 5y + x.
type lanes [side * side]uint64

// What the steps need is written out, because nearly all time is spent on them.

// constants has k(i) for each round i.
var constants = [rounds]uint64{
	0x0000000000000001, 0x0000000000008082, 0x800000000000808a, 0x8000000080008000,
	0x000000000000808b, 0x0000000080000001, 0x8000000080008081, 0x8000000000008009,
	0x000000000000008a, 0x0000000000000088, 0x0000000080008009, 0x000000008000000a,
	0x000000008000808b, 0x800000000000008b, 0x8000000000008089, 0x8000000000008003,
	0x8000000000008002, 0x8000000000000080, 0x000000000000800a, 0x800000008000000a,
	0x8000000080008081, 0x8000000000008080, 0x0000000080000001, 0x8000000080008008,
}

// turns has the numbers r of the lanes in the order in which the chapter determines them, from (1, 0) on.
var turns = [...]int{1, 3, 6, 10, 15, 21, 28, 36, 45, 55, 2, 14, 27, 41, 56, 8, 25, 43, 62, 18, 39, 61, 20, 44}

// places has, in the same order, where the lanes move to.
var places = [...]int{10, 7, 11, 17, 18, 3, 5, 16, 8, 21, 24, 4, 15, 23, 19, 13, 12, 2, 20, 14, 22, 9, 6, 1}

// permute performs the permutation.
func (l *lanes) permute() {
	for i := range rounds {
		l.mixColumns()
		l.turnAndMove()
		l.mixRows()
		l[0] ^= constants[i]
	}
}

// mixColumns performs the first step of a round.
func (l *lanes) mixColumns() {
	var c [side]uint64
	for x := range side {
		c[x] = l[x] ^ l[x+5] ^ l[x+10] ^ l[x+15] ^ l[x+20]
	}
	d := [side]uint64{
		c[4] ^ bits.RotateLeft64(c[1], 1),
		c[0] ^ bits.RotateLeft64(c[2], 1),
		c[1] ^ bits.RotateLeft64(c[3], 1),
		c[2] ^ bits.RotateLeft64(c[4], 1),
		c[3] ^ bits.RotateLeft64(c[0], 1),
	}
	for y := 0; y < len(l); y += side {
		l[y] ^= d[0]
		l[y+1] ^= d[1]
		l[y+2] ^= d[2]
		l[y+3] ^= d[3]
		l[y+4] ^= d[4]
	}
}

// turnAndMove performs the second and the third step of a round at once: each lane moves to the place of the lane that
// is turned after it, and (0, 0) is neither turned nor moved.
func (l *lanes) turnAndMove() {
	moving := l[1]
	for t := range places {
		to := places[t]
		l[to], moving = bits.RotateLeft64(moving, turns[t]), l[to]
	}
}

// mixRows performs the fourth step of a round.
func (l *lanes) mixRows() {
	for y := 0; y < len(l); y += side {
		a, b, c, d, e := l[y], l[y+1], l[y+2], l[y+3], l[y+4]
		l[y] = a ^ (^b & c)
		l[y+1] = b ^ (^c & d)
		l[y+2] = c ^ (^d & e)
		l[y+3] = d ^ (^e & a)
		l[y+4] = e ^ (^a & b)
	}
}
