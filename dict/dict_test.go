package dict

import (
	"fmt"
	"math"
	"math/rand"
	"reflect"
	"strings"
	"sync"
	"testing"
	"unsafe"

	"diptych/api"
	"diptych/value"
)

// TestNumbers: P4.1: numbers go up from 0 in the order in which keys come, and stay.
func TestNumbers(t *testing.T) {
	d := New[string]()
	if d.Len() != 0 {
		t.Errorf("Len of an empty dictionary: %d", d.Len())
	}
	for _, step := range []struct {
		k       string
		id, len int
	}{{"b", 0, 1}, {"a", 1, 2}, {"b", 0, 2}, {"", 2, 3}, {"a", 1, 3}, {"", 2, 3}, {"B", 3, 4}, {"b", 0, 4}} {
		if id := d.ID(step.k); id != step.id || d.Len() != step.len {
			t.Errorf("ID(%q): %d, Len %d; want %d, %d", step.k, id, d.Len(), step.id, step.len)
		}
	}
	for id, want := range []string{"b", "a", "", "B"} {
		if k, ok := d.Key(id); !ok || k != want {
			t.Errorf("Key(%d): %q, %v; want %q", id, k, ok, want)
		}
		if got, ok := d.Find(want); !ok || got != id {
			t.Errorf("Find(%q): %d, %v; want %d", want, got, ok, id)
		}
	}
}

// TestNoKey: P4.1: what has no number, what is no number; asking changes nothing.
func TestNoKey(t *testing.T) {
	empty, d := New[string](), New[string]()
	d.ID("b")
	d.ID("a")
	for _, id := range []int{2, 3, -1, -2, math.MinInt, math.MaxInt, 1 << 32, 1<<32 + 1, -1 << 32} {
		if k, ok := d.Key(id); ok || k != "" {
			t.Errorf("Key(%d): %q, %v", id, k, ok)
		}
	}
	if k, ok := empty.Key(0); ok || k != "" {
		t.Errorf("Key(0) of an empty dictionary: %q, %v", k, ok)
	}
	for _, k := range []string{"c", "", "ab", "b\x00"} {
		if id, ok := d.Find(k); ok || id != 0 {
			t.Errorf("Find(%q): %d, %v", k, id, ok)
		}
	}
	if id, ok := empty.Find(""); ok || id != 0 || empty.Len() != 0 {
		t.Errorf("Find in an empty dictionary: %d, %v, Len %d", id, ok, empty.Len())
	}
	if id := d.ID("c"); id != 2 || d.Len() != 3 {
		t.Errorf("the next key: %d, Len %d", id, d.Len())
	}
}

type place struct {
	name string
	at   [2]int
}

// checkKeys lays unlike keys into a dictionary and asks for all of them.
func checkKeys[K comparable](t *testing.T, keys ...K) {
	t.Helper()
	d := New[K]()
	for range 2 {
		for i, k := range keys {
			if id := d.ID(k); id != i {
				t.Errorf("ID(%v): %d; want %d", k, id, i)
			}
		}
	}
	for i, k := range keys {
		got, ok := d.Key(i)
		id, found := d.Find(k)
		if !ok || got != k || !found || id != i {
			t.Errorf("%v: Key(%d) %v, %v; Find %d, %v", k, i, got, ok, id, found)
		}
	}
	var zero K
	if k, ok := d.Key(len(keys)); ok || k != zero {
		t.Errorf("Key(%d): %v, %v", len(keys), k, ok)
	}
	if d.Len() != len(keys) {
		t.Errorf("Len: %d; want %d", d.Len(), len(keys))
	}
}

// TestKinds: P4.1: keys of every kind that can be compared.
func TestKinds(t *testing.T) {
	type text string
	one, other := 1, 1
	checkKeys(t, 7, 0, -7, math.MinInt, math.MaxInt)
	checkKeys[int8](t, -128, 127, 0)
	checkKeys(t, true, false)
	checkKeys[text](t, "b", "a", "")
	checkKeys(t, place{"a", [2]int{1, 2}}, place{"a", [2]int{2, 1}}, place{}, place{"b", [2]int{1, 2}})
	checkKeys(t, [2]string{"a", "b"}, [2]string{"ab", ""}, [2]string{"", "ab"})
	checkKeys(t, &one, &other, nil)
	checkKeys[any](t, 1, "1", int64(1), nil, place{}, 1.0)
	checkKeys(t, struct{}{})
	checkKeys(t, 0.5, -0.5, math.Inf(1))
}

// TestUnlikeItself: P4.1: a key that is not equal to itself is new each time, and never found.
func TestUnlikeItself(t *testing.T) {
	d := New[float64]()
	nan := math.NaN()
	for i, k := range []float64{nan, 1, nan, nan} {
		if id := d.ID(k); id != i || d.Len() != i+1 {
			t.Errorf("ID(%v): %d, Len %d; want %d", k, id, d.Len(), i)
		}
	}
	if id, ok := d.Find(nan); ok || id != 0 {
		t.Errorf("Find of one unlike itself: %d, %v", id, ok)
	}
	if k, ok := d.Key(2); !ok || !math.IsNaN(k) {
		t.Errorf("Key of one unlike itself: %v, %v", k, ok)
	}
	if d.ID(0) != 4 || d.ID(math.Copysign(0, -1)) != 4 || d.ID(1) != 1 {
		t.Error("equal keys have unlike numbers")
	}
}

// TestManyKeys: P4.4: Key of ID is the key, ID of Key the number; numbers are dense.
func TestManyKeys(t *testing.T) {
	random := rand.New(rand.NewSource(4))
	d, numbers := New[int](), map[int]int{}
	for range 20000 {
		k := random.Intn(5000) - 2500
		want, known := numbers[k]
		if !known {
			want = len(numbers)
			numbers[k] = want
		}
		if id, ok := d.Find(k); ok != known || known && id != want {
			t.Fatalf("Find(%d): %d, %v; want %d, %v", k, id, ok, want, known)
		}
		if id := d.ID(k); id != want {
			t.Fatalf("ID(%d): %d; want %d", k, id, want)
		}
		if got, ok := d.Key(want); !ok || got != k {
			t.Fatalf("Key(%d): %d, %v; want %d", want, got, ok, k)
		}
	}
	if d.Len() != len(numbers) {
		t.Errorf("Len: %d; want %d", d.Len(), len(numbers))
	}
	for id := range d.Len() {
		if k, ok := d.Key(id); !ok || d.ID(k) != id {
			t.Errorf("ID of Key(%d): %d", id, d.ID(k))
		}
	}
}

// cell is a cell as the tests hold it: nil is null.
type cell = *int

func of(n int) cell { return &n }

func fill(cells []cell) *Column[int] {
	c := NewColumn[int]()
	for _, v := range cells {
		if v == nil {
			c.PutNull()
		} else {
			c.Put(*v)
		}
	}
	return c
}

func checkCells(t *testing.T, name string, c *Column[int], want []cell) {
	t.Helper()
	nulls := 0
	for i, w := range want {
		v, there, err := c.At(i)
		wanted := 0
		if w == nil {
			nulls++
		} else {
			wanted = *w
		}
		if v != wanted || there != (w != nil) || err != api.OK {
			t.Fatalf("%s: At(%d): %d, %v, %d; want %d, %v", name, i, v, there, err, wanted, w != nil)
		}
	}
	for _, i := range []int{len(want), len(want) + 1, -1, -64, math.MinInt, math.MaxInt, 1 << 32, -1 << 32} {
		if v, there, err := c.At(i); v != 0 || there || err != api.ErrArg {
			t.Errorf("%s: At(%d): %d, %v, %d; want ErrArg", name, i, v, there, err)
		}
	}
	if c.Len() != len(want) || c.Nulls() != nulls {
		t.Errorf("%s: Len %d, Nulls %d; want %d, %d", name, c.Len(), c.Nulls(), len(want), nulls)
	}
}

// TestColumn: P4.2: the example, and columns of every length around a word's.
func TestColumn(t *testing.T) {
	checkCells(t, "empty", NewColumn[int](), nil)
	checkCells(t, "the example", fill([]cell{of(5), nil}), []cell{of(5), nil})
	checkCells(t, "noughts", fill([]cell{of(0), nil, of(0)}), []cell{of(0), nil, of(0)})
	random := rand.New(rand.NewSource(4))
	for n := range 200 {
		var all, none, mixed []cell
		for i := range n {
			all, none = append(all, nil), append(none, of(i-7))
			mixed = append(mixed, []cell{nil, of(i)}[random.Intn(2)])
		}
		checkCells(t, fmt.Sprint("all null: ", n), fill(all), all)
		checkCells(t, fmt.Sprint("none null: ", n), fill(none), none)
		checkCells(t, fmt.Sprint("mixed: ", n), fill(mixed), mixed)
	}
}

// TestTake: P4.2: cells in the order that is asked for, again and again.
func TestTake(t *testing.T) {
	cells := []cell{of(5), nil}
	c := fill(cells)
	for _, at := range [][]int{{1, 0, 0}, {0}, {1}, {1, 1, 1}, {0, 1, 0, 1}, nil, {}} {
		var want []cell
		for _, i := range at {
			want = append(want, cells[i])
		}
		taken, err := c.Take(at)
		if err != api.OK || taken == nil {
			t.Fatalf("Take(%v): %v, %d", at, taken, err)
		}
		checkCells(t, fmt.Sprint("Take ", at), taken, want)
	}
	checkCells(t, "the column it is taken from", c, cells)
	if taken, err := NewColumn[int]().Take(nil); err != api.OK || taken == nil || taken.Len() != 0 {
		t.Errorf("Take of an empty column: %v, %d", taken, err)
	}
}

// TestTakeNone: P4.2: one number without a cell is enough, wherever it stands.
func TestTakeNone(t *testing.T) {
	cells := []cell{of(5), nil}
	c := fill(cells)
	for _, at := range [][]int{{2}, {-1}, {0, 1, 2}, {2, 0}, {0, -1, 0}, {math.MinInt}, {math.MaxInt}, {1 << 32}, {0, 1<<32 + 1}} {
		if taken, err := c.Take(at); taken != nil || err != api.ErrArg {
			t.Errorf("Take(%v): %v, %d; want ErrArg", at, taken, err)
		}
	}
	if taken, err := NewColumn[int]().Take([]int{0}); taken != nil || err != api.ErrArg {
		t.Errorf("Take(0) of an empty column: %v, %d", taken, err)
	}
	checkCells(t, "a column that took nothing", c, cells)
}

// TestTakeMany: P4.2, P4.4: Take of all numbers is the column; what is taken stands on its own.
func TestTakeMany(t *testing.T) {
	random := rand.New(rand.NewSource(5))
	for _, n := range []int{1, 63, 64, 65, 128, 300} {
		var cells []cell
		var all []int
		for i := range n {
			cells, all = append(cells, []cell{nil, of(i), of(-i)}[random.Intn(3)]), append(all, i)
		}
		c := fill(cells)
		whole, err := c.Take(all)
		if err != api.OK {
			t.Fatalf("Take of all %d: %d", n, err)
		}
		checkCells(t, "Take of all", whole, cells)
		var at []int
		var want []cell
		for range 2 * n {
			i := random.Intn(n)
			at, want = append(at, i), append(want, cells[i])
		}
		taken, err := c.Take(at)
		if err != api.OK {
			t.Fatalf("Take(%v): %d", at, err)
		}
		clear(at)
		checkCells(t, "Take of some", taken, want)
		taken.PutNull()
		whole.Put(9)
		c.Put(8)
		checkCells(t, "what was taken, and a null", taken, append(want[:len(want):len(want)], nil))
		checkCells(t, "all, and a 9", whole, append(cells[:n:n], of(9)))
		checkCells(t, "the column, and an 8", c, append(cells[:n:n], of(8)))
	}
}

// TestCellKinds: P4.2: cells of any kind; a null one is told as the kind's zero value.
func TestCellKinds(t *testing.T) {
	texts := NewColumn[string]()
	texts.Put("")
	texts.PutNull()
	texts.Put("x")
	for i, want := range []struct {
		v     string
		there bool
	}{{"", true}, {"", false}, {"x", true}} {
		if v, there, err := texts.At(i); v != want.v || there != want.there || err != api.OK {
			t.Errorf("At(%d): %q, %v, %d; want %v", i, v, there, err, want)
		}
	}
	calls := NewColumn[func() int]()
	calls.PutNull()
	calls.Put(func() int { return 7 })
	if f, there, err := calls.At(0); f != nil || there || err != api.OK {
		t.Errorf("a null function: %v, %d", there, err)
	}
	if f, there, _ := calls.At(1); !there || f() != 7 {
		t.Error("a column of functions lost one")
	}
	bare := NewColumn[struct{}]()
	bare.Put(struct{}{})
	bare.PutNull()
	if _, there, err := bare.At(1); there || err != api.OK || bare.Len() != 2 || bare.Nulls() != 1 {
		t.Errorf("a column of nothings: %v, %d, Len %d, Nulls %d", there, err, bare.Len(), bare.Nulls())
	}
	anything := NewColumn[any]()
	anything.Put(nil)
	anything.Put([]int{1})
	anything.PutNull()
	if v, there, err := anything.At(0); v != nil || !there || err != api.OK {
		t.Errorf("a nil that is no null: %v, %v, %d", v, there, err)
	}
	if anything.Nulls() != 1 {
		t.Errorf("Nulls: %d", anything.Nulls())
	}
}

func text(s string) api.Value           { return api.Value{Kind: api.KText, Text: s} }
func whole(n int64) api.Value           { return api.Value{Kind: api.KInt, Int: n} }
func exact(s string) api.Value          { return api.Value{Kind: api.KDec, Text: s} }
func list(parts ...api.Value) api.Value { return api.Value{Kind: api.KList, List: parts} }
func literal(s, extra string) api.Value { return api.Value{Kind: api.KLit, Text: s, Extra: extra} }
func numbered(k int, n int64) api.Value { return api.Value{Kind: k, Int: n} }
func worded(k int, s string) api.Value  { return api.Value{Kind: k, Text: s} }
func deep(n int, v api.Value) (w api.Value) {
	for w = v; n > 0; n-- {
		w = list(w)
	}
	return w
}

// unlike are values of which no two are the same.
var unlike = []api.Value{
	{}, {Kind: api.KBool}, {Kind: api.KBool, Bool: true},
	whole(3), exact("3.0"), exact("3.5"), whole(0), whole(1), whole(-1), whole(math.MinInt64), whole(math.MaxInt64),
	text("3"), text(""), text("null"), text("a"), text("\x00\xff"), worded(api.KIri, "a"), worded(api.KBlank, "a"), literal("a", "en"), literal("a", "de"), literal("", "ena"), literal("ae", "n"),
	numbered(api.KNode, 3), numbered(api.KEdge, 3), numbered(api.KNode, 0), numbered(api.KEdge, 0),
	list(), list(list()), list(api.Value{}), list(list(), list()), list(whole(1), whole(2)), list(whole(2), whole(1)), list(list(whole(1)), whole(2)), list(list(whole(1), whole(2))), list(exact("1.0"), whole(2)),
	deep(60, api.Value{}), deep(59, api.Value{}), text(strings.Repeat("x", api.MaxText)),
}

// TestValues: P4.3: values that are the same have one number, others others, the next one each.
func TestValues(t *testing.T) {
	d := NewValues()
	if d.Len() != 0 {
		t.Errorf("Len of an empty dictionary: %d", d.Len())
	}
	for range 2 {
		for i, v := range unlike {
			if id, err := d.ID(v); id != i || err != api.OK {
				t.Errorf("ID of value %d: %d, %d", i, id, err)
			}
		}
	}
	for i, v := range unlike {
		got, ok := d.Value(i)
		if !ok || !value.Same(got, v) {
			t.Errorf("Value(%d): kind %d, %.40q, %v; want kind %d, %.40q", i, got.Kind, value.Text(got), ok, v.Kind, value.Text(v))
		}
		if id, err := d.ID(got); id != i || err != api.OK {
			t.Errorf("ID of Value(%d): %d, %d", i, id, err)
		}
	}
	if d.Len() != len(unlike) {
		t.Errorf("Len: %d; want %d", d.Len(), len(unlike))
	}
	for _, id := range []int{len(unlike), -1, math.MinInt, math.MaxInt, 1 << 32} {
		if v, ok := d.Value(id); ok || !reflect.DeepEqual(v, api.Value{}) {
			t.Errorf("Value(%d): %v, %v", id, v, ok)
		}
	}
	if v, ok := NewValues().Value(0); ok || !reflect.DeepEqual(v, api.Value{}) {
		t.Errorf("Value(0) of an empty dictionary: %v, %v", v, ok)
	}
}

// TestEmptyLists: P4.3, R2: nil and empty lists are one.
func TestEmptyLists(t *testing.T) {
	d := NewValues()
	first, _ := d.ID(api.Value{Kind: api.KList})
	second, err := d.ID(api.Value{Kind: api.KList, List: []api.Value{}})
	third, _ := d.ID(api.Value{List: []api.Value{}})
	if first != 0 || second != 0 || err != api.OK || third != 1 || d.Len() != 2 {
		t.Errorf("ID of empty lists: %d, %d, %d; Len %d", first, second, third, d.Len())
	}
}

// TestNoValue: P4.3: what may not be has no number and leaves none behind.
func TestNoValue(t *testing.T) {
	d := NewValues()
	d.ID(text("a"))
	d.ID(text("b"))
	for i, v := range []api.Value{
		{Kind: -1}, {Kind: api.KLit + 1}, {Kind: math.MaxInt}, {Bool: true}, {Int: 1}, {Kind: api.KInt, Text: "1"}, {Kind: api.KText, Extra: "x"},
		exact(""), exact("03.0"), exact("3"), exact("1.00"), worded(api.KIri, ""), worded(api.KIri, "a b"), worded(api.KIri, "<a>"), worded(api.KBlank, "1a"), worded(api.KBlank, ""), literal("a", ""),
		numbered(api.KNode, -1), numbered(api.KEdge, math.MinInt64), list(api.Value{Kind: -1}), deep(61, api.Value{}), deep(60, list()), text(strings.Repeat("x", api.MaxText+1)), list(make([]api.Value, api.MaxParts+1)...),
	} {
		if id, err := d.ID(v); id != 0 || err != api.ErrArg {
			t.Errorf("ID of value %d, which may not be: %d, %d", i, id, err)
		}
	}
	if d.Len() != 2 {
		t.Errorf("Len: %d", d.Len())
	}
	if id, err := d.ID(text("c")); id != 2 || err != api.OK {
		t.Errorf("the next value: %d, %d", id, err)
	}
}

// TestOneFace: P4.3: Values has the calls of its face, and shows none of its encodings.
func TestOneFace(t *testing.T) {
	for name, kind := range map[string]struct {
		t    reflect.Type
		want []string
	}{
		"Values": {reflect.TypeFor[*Values](), []string{"ID", "Len", "Value"}},
		"Dict":   {reflect.TypeFor[*Dict[int]](), []string{"Find", "ID", "Key", "Len"}},
		"Column": {reflect.TypeFor[*Column[int]](), []string{"At", "Len", "Nulls", "Put", "PutNull", "Take"}},
	} {
		var got []string
		for i := range kind.t.NumMethod() {
			got = append(got, kind.t.Method(i).Name)
		}
		if !reflect.DeepEqual(got, kind.want) {
			t.Errorf("methods of %s: %v; want %v", name, got, kind.want)
		}
		for i := range kind.t.Elem().NumField() {
			if f := kind.t.Elem().Field(i); f.IsExported() {
				t.Errorf("%s shows %s", name, f.Name)
			}
		}
	}
}

// TestWrittenOver: P4.5: what was handed in to Values, or told by it, may be written over.
func TestWrittenOver(t *testing.T) {
	d := NewValues()
	inner := []api.Value{whole(1), text("a"), whole(9)}
	v := list(api.Value{Kind: api.KList, List: inner[:2]}, literal("x", "en"))
	want := list(list(whole(1), text("a")), literal("x", "en"))
	id, _ := d.ID(v)
	if inner[2].Int != 9 || !value.Same(v, want) {
		t.Error("ID changed what was handed in")
	}
	inner[0], inner[1], v.List[1] = whole(7), whole(8), whole(9)
	told, _ := d.Value(id)
	again, _ := d.Value(id)
	if !value.Same(told, want) {
		t.Errorf("a value that was written over when it was handed in: %s", value.Text(told))
	}
	told.List[0].List[0], told.List[1] = whole(5), whole(6)
	if !value.Same(again, want) {
		t.Errorf("a value beside one that was written over: %s", value.Text(again))
	}
	if last, _ := d.Value(id); !value.Same(last, want) {
		t.Errorf("a value that was written over when it was told: %s", value.Text(last))
	}
	if now, _ := d.ID(want); now != id || d.Len() != 1 {
		t.Errorf("ID of the value that was first: %d, Len %d", now, d.Len())
	}
}

// TestCellsWrittenOver: P4.5: values and rows of them in a column's cells.
func TestCellsWrittenOver(t *testing.T) {
	c, rows := NewColumn[api.Value](), NewColumn[[]api.Value]()
	v, want := list(list(whole(1)), whole(2)), list(list(whole(1)), whole(2))
	c.Put(v)
	rows.Put(v.List)
	v.List[0].List[0], v.List[1] = whole(7), whole(8)
	taken, _ := c.Take([]int{0, 0})
	takenRows, _ := rows.Take([]int{0})
	for _, col := range []*Column[api.Value]{c, taken, c} {
		told, _, _ := col.At(0)
		if !value.Same(told, want) {
			t.Errorf("a cell that was written over: %s", value.Text(told))
		}
		told.List[0].List[0], told.List[1] = whole(5), whole(6)
	}
	for _, col := range []*Column[[]api.Value]{rows, takenRows, rows} {
		told, _, _ := col.At(0)
		if !value.Same(list(told...), want) {
			t.Errorf("a row that was written over: %s", value.Text(list(told...)))
		}
		told[0].List[0], told[1] = whole(5), whole(6)
	}
	if told, _, _ := taken.At(1); !value.Same(told, want) {
		t.Errorf("a cell beside one that was written over: %s", value.Text(told))
	}
}

// TestTextsWrittenOver: P4.5: texts whose bytes their owner takes back.
func TestTextsWrittenOver(t *testing.T) {
	b := []byte("abc")
	lent := unsafe.String(&b[0], len(b))
	d, c, vals := New[string](), NewColumn[string](), NewValues()
	d.ID(lent)
	c.Put(lent)
	vals.ID(text(lent))
	b[0] = 'x'
	if k, _ := d.Key(0); k != "abc" {
		t.Errorf("a key: %q", k)
	}
	if id, ok := d.Find("abc"); !ok || id != 0 {
		t.Errorf("Find of a key: %d, %v", id, ok)
	}
	if v, _, _ := c.At(0); v != "abc" {
		t.Errorf("a cell: %q", v)
	}
	if v, _ := vals.Value(0); v.Text != "abc" {
		t.Errorf("a value: %q", v.Text)
	}
	first, _ := d.Key(0)
	second, _ := d.Key(0)
	if unsafe.StringData(first) == unsafe.StringData(second) {
		t.Error("two answers share a text")
	}
}

// TestBehindLists: R2: what lies behind a list's length is neither read nor written.
func TestBehindLists(t *testing.T) {
	c := fill([]cell{of(5), nil})
	at := []int{1, 0, 99}
	if taken, err := c.Take(at[:2]); err != api.OK || taken.Len() != 2 || at[2] != 99 || at[0] != 1 || at[1] != 0 {
		t.Errorf("Take of a list's beginning: %d, %v", err, at)
	}
}

// TestAlone: R2, R6: two dictionaries, two columns know nothing of one another.
func TestAlone(t *testing.T) {
	a, b := New[int](), New[int]()
	va, vb := NewValues(), NewValues()
	ca, cb := NewColumn[int](), NewColumn[int]()
	a.ID(5)
	va.ID(whole(5))
	ca.PutNull()
	if b.ID(6) != 0 || a.ID(6) != 1 || b.Len() != 1 {
		t.Error("dictionaries share their numbers")
	}
	if id, _ := vb.ID(whole(6)); id != 0 || vb.Len() != 1 {
		t.Error("dictionaries of values share their numbers")
	}
	cb.Put(1)
	if ca.Len() != 1 || ca.Nulls() != 1 || cb.Len() != 1 || cb.Nulls() != 0 {
		t.Error("columns share their cells")
	}
}

// TestAskedAtOnce: R6: calls that lay nothing down may be made from many goroutines.
func TestAskedAtOnce(t *testing.T) {
	d, vals, c := New[string](), NewValues(), fill([]cell{of(5), nil, of(7)})
	d.ID("b")
	d.ID("a")
	vals.ID(list(whole(1)))
	var wg sync.WaitGroup
	for range 8 {
		wg.Go(func() {
			for range 200 {
				id, ok := d.Find("a")
				k, _ := d.Key(0)
				v, _ := vals.Value(0)
				taken, _ := c.Take([]int{1, 2})
				if id != 1 || !ok || k != "b" || !value.Same(v, list(whole(1))) || taken.Nulls() != 1 || c.Nulls() != 1 || d.Len() != 2 {
					t.Error("another answer beside other goroutines")
				}
			}
		})
	}
	wg.Wait()
}
