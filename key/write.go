package key

import (
	"math"

	"roundelay/api"
)

// The bytes that tell where things end. An end is below all that could stand in its place, so that what another one begins with comes first.
const (
	end   = 0   // of a list or an object
	again = 1   // a field comes
	zero  = 0   // in a text: one of the two below comes
	shut  = 1   // behind zero: the text ends
	stays = 255 // behind zero: the text has a byte 0
)

// intBytes is how many an Int has.
const intBytes = 8

// firstKind is the byte of the first kind: it is above end, so that no value in a list is taken for the list's end.
const firstKind = 1

// turned is an Int with its highest bit turned, so that those below 0 come first.
func turned(n int64) int64 { return n ^ math.MinInt64 }

// put writes a value behind out.
func put(out []byte, v api.Value) []byte {
	out = append(out, byte(v.Kind+firstKind))
	switch v.Kind {
	case api.Bool:
		return append(out, byte(v.Int))
	case api.Int:
		return putInt(out, v.Int)
	case api.Text:
		return putText(out, v.Text)
	case api.List:
		return putList(out, v.List)
	case api.Object:
		return putFields(out, v.Fields)
	}
	return out
}

func putInt(out []byte, n int64) []byte {
	bits := uint64(turned(n))
	for i := intBytes - 1; i >= 0; i-- {
		out = append(out, byte(bits>>(8*i)))
	}
	return out
}

func putText(out []byte, s string) []byte {
	for i := range len(s) {
		out = append(out, s[i])
		if s[i] == zero {
			out = append(out, stays)
		}
	}
	return append(out, zero, shut)
}

func putList(out []byte, l []api.Value) []byte {
	for _, v := range l {
		out = put(out, v)
	}
	return append(out, end)
}

func putFields(out []byte, l []api.Field) []byte {
	for _, f := range l {
		out = append(out, again)
		out = putText(out, f.Name)
		out = put(out, f.Value)
	}
	return append(out, end)
}
