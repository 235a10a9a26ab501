package codec

import (
	"strconv"

	"assize/api"
)

// write appends the encoding of a value that Check accepts.
func write(b []byte, v api.Value) []byte {
	writers := [...]func(b []byte, v api.Value) []byte{
		api.IntV:  writeInt,
		api.TextV: writeText,
		api.ListV: writeList,
		api.DictV: writeDict,
	}
	return writers[v.Kind](b, v)
}

func writeInt(b []byte, v api.Value) []byte {
	b = append(b, 'i')
	b = strconv.AppendInt(b, int64(v.N), 10)
	return append(b, 'e')
}

func writeText(b []byte, v api.Value) []byte { return appendText(b, v.S) }

func writeList(b []byte, v api.Value) []byte {
	b = append(b, 'l')
	for _, x := range v.L {
		b = write(b, x)
	}
	return append(b, 'e')
}

func writeDict(b []byte, v api.Value) []byte {
	b = append(b, 'd')
	for i, key := range v.Keys {
		b = appendText(b, key)
		b = write(b, v.L[i])
	}
	return append(b, 'e')
}

func appendText(b []byte, s string) []byte {
	b = strconv.AppendInt(b, int64(len(s)), 10)
	b = append(b, ':')
	return append(b, s...)
}
