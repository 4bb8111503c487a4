package value

import (
	"strconv"

	"diptych/api"
)

const (
	intBytes   = 8
	countBytes = 4
)

// encode lays the encoding of a value that may be behind out.
func encode(out []byte, v api.Value) []byte {
	out = append(out, byte(v.Kind))
	switch kindOf(v).(type) {
	case truth:
		return append(out, byte(truthOf(v.Bool)))
	case whole, node, edge:
		return encodeInt(out, uint64(v.Int), intBytes)
	case exact, text, iri, blank:
		return encodeText(out, v.Text)
	case literal:
		return encodeText(encodeText(out, v.Text), v.Extra)
	case list:
		out = encodeInt(out, uint64(len(v.List)), countBytes)
		for _, part := range v.List {
			out = encode(out, part)
		}
	}
	return out
}

func encodeText(out []byte, s string) []byte {
	return append(encodeInt(out, uint64(len(s)), countBytes), s...)
}

// encodeInt lays so many bytes of n behind out, the highest first.
func encodeInt(out []byte, n uint64, bytes int) []byte {
	for i := bytes - 1; i >= 0; i-- {
		out = append(out, byte(n>>(8*i)))
	}
	return out
}

// reader reads encodings from the beginning of what is left.
type reader struct {
	left []byte
}

// take tells the next n bytes.
func (r *reader) take(n int) ([]byte, bool) {
	if n > len(r.left) {
		return nil, false
	}
	taken := r.left[:n]
	r.left = r.left[n:]
	return taken, true
}

func (r *reader) int(bytes int) (uint64, bool) {
	taken, ok := r.take(bytes)
	n := uint64(0)
	for _, b := range taken {
		n = n<<8 | uint64(b)
	}
	return n, ok
}

// count reads how many follow, at most so many.
func (r *reader) count(most int) (int, bool) {
	n, ok := r.int(countBytes)
	return int(n), ok && n <= uint64(most)
}

func (r *reader) text() (string, bool) {
	n, ok := r.count(api.MaxText)
	if !ok {
		return "", false
	}
	taken, ok := r.take(n)
	return string(taken), ok
}

// value reads a value that lies in so many lists. Of what it tells only Check knows whether it may be.
func (r *reader) value(lists int) (v api.Value, ok bool) {
	kind, ok := r.int(1)
	if !ok {
		return api.Value{}, false
	}
	v.Kind = int(kind)
	switch kindOf(v).(type) {
	case truth:
		var bit uint64
		bit, ok = r.int(1)
		v.Bool, ok = bit == 1, ok && bit <= 1
	case whole, node, edge:
		var n uint64
		n, ok = r.int(intBytes)
		v.Int = int64(n)
	case exact, text, iri, blank:
		v.Text, ok = r.text()
	case literal:
		v.Text, ok = r.text()
		if ok {
			v.Extra, ok = r.text()
		}
	case list:
		v.List, ok = r.list(lists + 1)
	}
	return v, ok
}

func (r *reader) list(lists int) ([]api.Value, bool) {
	n, ok := r.count(api.MaxParts)
	if !ok || lists > api.MaxDeep {
		return nil, false
	}
	var l []api.Value
	for range n {
		v, ok := r.value(lists)
		if !ok {
			return nil, false
		}
		l = append(l, v)
	}
	return l, true
}

// show lays the text of a value that may be behind out.
func show(out []byte, v api.Value) []byte {
	switch kindOf(v).(type) {
	case null:
		return append(out, "null"...)
	case truth:
		return strconv.AppendBool(out, v.Bool)
	case whole:
		return strconv.AppendInt(out, v.Int, 10)
	case exact, text, literal:
		return append(out, v.Text...)
	case iri:
		return append(append(append(out, '<'), v.Text...), '>')
	case blank:
		return append(append(out, "_:"...), v.Text...)
	case node:
		return append(strconv.AppendInt(append(out, '('), v.Int, 10), ')')
	case edge:
		return append(strconv.AppendInt(append(out, '['), v.Int, 10), ']')
	case list:
		return showList(out, v.List)
	}
	return out
}

func showList(out []byte, l []api.Value) []byte {
	out = append(out, '[')
	for i, v := range l {
		if i > 0 {
			out = append(out, ", "...)
		}
		out = show(out, v)
	}
	return append(out, ']')
}
