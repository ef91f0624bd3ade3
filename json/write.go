package json

import (
	"strconv"
	"strings"

	"roundelay/api"
	"roundelay/text"
)

func write(out *strings.Builder, v api.Value) {
	switch v.Kind {
	case api.Null:
		out.WriteString("null")
	case api.Bool:
		out.WriteString(strconv.FormatBool(v.Int == 1))
	case api.Int:
		out.WriteString(strconv.FormatInt(v.Int, 10))
	case api.Text:
		out.WriteString(text.Quote(v.Text))
	case api.List:
		writeList(out, v.List)
	case api.Object:
		writeFields(out, v.Fields)
	}
}

func writeList(out *strings.Builder, l []api.Value) {
	out.WriteByte('[')
	for i, v := range l {
		comma(out, i)
		write(out, v)
	}
	out.WriteByte(']')
}

func writeFields(out *strings.Builder, l []api.Field) {
	out.WriteByte('{')
	for i, f := range l {
		comma(out, i)
		out.WriteString(text.Quote(f.Name))
		out.WriteByte(':')
		write(out, f.Value)
	}
	out.WriteByte('}')
}

// comma stands ahead of each thing but the first one.
func comma(out *strings.Builder, i int) {
	if i > 0 {
		out.WriteByte(',')
	}
}
