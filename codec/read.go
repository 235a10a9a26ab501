package codec

import (
	"bytes"
	"strconv"

	"assize/api"
)

// reader reads one part of an encoding after the other. Its methods panic with ErrCode where the bytes are no
// canonical encoding, so that only Decode has to deal with errors.
type reader struct {
	rest []byte
}

// value reads a value whose depth is at most the given one.
func (r *reader) value(depth int) api.Value {
	switch r.first() {
	case 'i':
		return r.integer()
	case 'l':
		return r.list(depth)
	case 'd':
		return r.dict(depth)
	}
	return api.Value{Kind: api.TextV, S: r.text()}
}

func (r *reader) integer() api.Value {
	r.take(1)
	return api.Value{Kind: api.IntV, N: r.number('e')}
}

func (r *reader) list(depth int) api.Value {
	r.open(depth)
	v := api.Value{Kind: api.ListV}
	for !r.closes() {
		v.L = append(v.L, r.value(depth-1))
	}
	return v
}

func (r *reader) dict(depth int) api.Value {
	r.open(depth)
	v := api.Value{Kind: api.DictV}
	for !r.closes() {
		key := r.text()
		if last := len(v.Keys) - 1; last >= 0 && v.Keys[last] >= key {
			panic(api.ErrCode)
		}
		v.Keys = append(v.Keys, key)
		v.L = append(v.L, r.value(depth-1))
	}
	return v
}

// open takes the first byte of a list or dictionary, whose depth is at least 1.
func (r *reader) open(depth int) {
	if depth < 1 {
		panic(api.ErrCode)
	}
	r.take(1)
}

// closes reports whether the list or dictionary that is being read ends here, and takes its last byte if so.
func (r *reader) closes() bool {
	if r.first() != 'e' {
		return false
	}
	r.take(1)
	return true
}

func (r *reader) text() string {
	n := r.number(':')
	return string(r.take(n))
}

// number takes a number and the byte behind it.
func (r *reader) number(end byte) int {
	// Without this byte the index is negative, which take refuses.
	digits := string(r.take(bytes.IndexByte(r.rest, end)))
	r.take(1)
	n, err := strconv.Atoi(digits)
	// Atoi accepts signs and zeros that Itoa does not write.
	if err != nil || strconv.Itoa(n) != digits {
		panic(api.ErrCode)
	}
	return n
}

// first returns the next byte, which is still to be taken.
func (r *reader) first() byte {
	if len(r.rest) == 0 {
		panic(api.ErrCode)
	}
	return r.rest[0]
}

// take returns the next n bytes; what remains to be read begins behind them.
func (r *reader) take(n int) []byte {
	if n < 0 || n > len(r.rest) {
		panic(api.ErrCode)
	}
	taken := r.rest[:n:n]
	r.rest = r.rest[n:len(r.rest):len(r.rest)]
	return taken
}
