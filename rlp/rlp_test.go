package rlp_test

import (
	"bytes"
	"math"
	"math/big"
	"math/rand/v2"
	"slices"
	"strings"
	"testing"

	"smithy/api"
	"smithy/rlp"
	"smithy/word"
)

// tree is an item as the chapter's words make it: bytes, or a list of items.
type tree struct {
	list  bool
	bytes string
	items []tree
}

func leaf(s string) tree { return tree{bytes: s} }

func listOf(items ...tree) tree { return tree{list: true, items: items} }

// inLists is an item in n lists that have nothing else.
func inLists(n int, x tree) tree {
	for range n {
		x = listOf(x)
	}
	return x
}

func (x tree) row() []api.Node {
	if !x.list {
		return []api.Node{{Bytes: []byte(x.bytes)}}
	}
	l := []api.Node{{List: true}}
	for _, y := range x.items {
		l = append(l, y.row()...)
	}
	l[0].Size = len(l) - 1
	return l
}

// written is the chapter's section 'Words', word by word.
func (x tree) written() string {
	if !x.list && len(x.bytes) == 1 && x.bytes[0] < 128 {
		return x.bytes
	}
	if !x.list {
		return headed(x.bytes, 128, 183)
	}
	var items strings.Builder
	for _, y := range x.items {
		items.WriteString(y.written())
	}
	return headed(items.String(), 192, 247)
}

func headed(s string, short, long int) string {
	if len(s) <= 55 {
		return chars(short+len(s)) + s
	}
	number := string(big.NewInt(int64(len(s))).Bytes())
	return chars(long+len(number)) + number + s
}

func chars(l ...int) string {
	b := make([]byte, len(l))
	for i, x := range l {
		b[i] = byte(x)
	}
	return string(b)
}

// modelReader is the chapter's text on Decode, error by error.
type modelReader struct {
	b   string
	at  int
	row []api.Node
}

func modelDecode(b string) ([]api.Node, api.Errno) {
	if len(b) > 1<<20 {
		return nil, api.ErrLong
	}
	m := modelReader{b: b}
	if err := m.item(len(b), 0); err != api.OK {
		return nil, err
	}
	if m.at != len(b) {
		return nil, api.ErrForm
	}
	return m.row, api.OK
}

func (m *modelReader) item(end, lists int) api.Errno {
	if m.at == len(m.b) {
		return api.ErrShort
	}
	first := int(m.b[m.at])
	list := first >= 192
	m.at++
	size := new(big.Int)
	digits := 0
	switch {
	case first < 128:
		m.at--
		size.SetInt64(1)
	case first <= 183:
		size.SetInt64(int64(first) - 128)
	case first < 192:
		digits = first - 183
	case first <= 247:
		size.SetInt64(int64(first) - 192)
	default:
		digits = first - 247
	}
	if digits > len(m.b)-m.at {
		return api.ErrShort
	}
	if digits > 0 {
		number := m.b[m.at : m.at+digits]
		m.at += digits
		size.SetBytes([]byte(number))
		if number[0] == 0 || size.Cmp(big.NewInt(55)) <= 0 {
			return api.ErrForm
		}
	}
	stop := new(big.Int).Add(big.NewInt(int64(m.at)), size)
	if stop.Cmp(big.NewInt(int64(len(m.b)))) > 0 {
		return api.ErrShort
	}
	if stop.Cmp(big.NewInt(int64(end))) > 0 {
		return api.ErrForm
	}
	if first == 129 && m.b[m.at] < 128 {
		return api.ErrForm
	}
	if list && lists == 64 {
		return api.ErrLong
	}
	place := len(m.row)
	m.row = append(m.row, api.Node{List: list})
	if !list {
		m.row[place].Bytes = []byte(m.b[m.at:stop.Int64()])
		m.at = int(stop.Int64())
		return api.OK
	}
	for m.at < int(stop.Int64()) {
		if err := m.item(int(stop.Int64()), lists+1); err != api.OK {
			return err
		}
	}
	m.row[place].Size = len(m.row) - place - 1
	return api.OK
}

// modelItem is the item at the front of a row, what is behind it, and whether
// there is one.
func modelItem(l []api.Node) (tree, []api.Node, bool) {
	if len(l) == 0 {
		return tree{}, nil, false
	}
	x, behind := l[0], l[1:]
	if !x.List {
		return leaf(string(x.Bytes)), behind, x.Size == 0
	}
	if len(x.Bytes) > 0 || x.Size < 0 || x.Size > len(behind) {
		return tree{}, nil, false
	}
	list := listOf()
	items := behind[:x.Size]
	for len(items) > 0 {
		y, rest, ok := modelItem(items)
		if !ok {
			return tree{}, nil, false
		}
		list.items = append(list.items, y)
		items = rest
	}
	return list, behind[x.Size:], true
}

func (x tree) depth() int {
	if !x.list {
		return 0
	}
	most := 0
	for _, y := range x.items {
		most = max(most, y.depth())
	}
	return most + 1
}

func modelEncode(l []api.Node) (string, api.Errno) {
	x, rest, ok := modelItem(l)
	if !ok || len(rest) > 0 {
		return "", api.ErrForm
	}
	s := x.written()
	if x.depth() > 64 || len(s) > 1<<20 {
		return "", api.ErrLong
	}
	return s, api.OK
}

func sameRow(a, b []api.Node) bool {
	return slices.EqualFunc(a, b, func(x, y api.Node) bool {
		return x.List == y.List && x.Size == y.Size && bytes.Equal(x.Bytes, y.Bytes)
	})
}

func wantEncode(t *testing.T, l []api.Node, want string, wantErr api.Errno) {
	t.Helper()
	b, err := rlp.Encode(l)
	if string(b) != want || err != wantErr {
		t.Errorf("Encode(%d nodes, %v ..) = %d bytes, %.60x .., %v, want %d bytes, %.60x .., %v",
			len(l), l[:min(len(l), 6)], len(b), b, err, len(want), want, wantErr)
	}
}

func wantDecode(t *testing.T, b string, want []api.Node, wantErr api.Errno) {
	t.Helper()
	l, err := rlp.Decode([]byte(b))
	if !sameRow(l, want) || err != wantErr {
		t.Errorf("Decode(%d bytes, %.60x ..) = %d nodes, %v .., %v, want %d nodes, %v .., %v",
			len(b), b, len(l), l[:min(len(l), 6)], err, len(want), want[:min(len(want), 6)], wantErr)
	}
}

// wantBoth wants that a tree is written so, and read so.
func wantBoth(t *testing.T, x tree, want string) {
	t.Helper()
	wantEncode(t, x.row(), want, api.OK)
	wantDecode(t, want, x.row(), api.OK)
}

func checkEncode(t *testing.T, l []api.Node) {
	t.Helper()
	want, wantErr := modelEncode(l)
	wantEncode(t, l, want, wantErr)
}

// checkDecode holds Decode against the model, and P7.2.
func checkDecode(t *testing.T, b string) {
	t.Helper()
	want, wantErr := modelDecode(b)
	wantDecode(t, b, want, wantErr)
	if wantErr == api.OK {
		l, _ := rlp.Decode([]byte(b))
		wantEncode(t, l, b, api.OK)
	}
}

func random(seed int) *rand.Rand { return rand.New(rand.NewPCG(7, uint64(seed))) }

// some are n bytes that look random and are the same in each run.
func some(seed, n int) string {
	r := random(seed)
	b := make([]byte, n)
	for i := range b {
		b[i] = byte(r.Uint32())
	}
	return string(b)
}

// someTree is a tree that looks random, of lists that stand at most so deep.
func someTree(r *rand.Rand, depth int) tree {
	if depth == 0 || r.IntN(3) == 0 {
		sizes := []int{0, 1, 1, 2, 20, 32, 54, 55, 56, 57, 255, 256, 300}
		return leaf(some(r.Int(), sizes[r.IntN(len(sizes))]))
	}
	x := listOf()
	for range r.IntN(7) {
		x.items = append(x.items, someTree(r, depth-1))
	}
	return x
}

// edges are counts of bytes about which heads grow.
var edges = []int{0, 1, 2, 53, 54, 55, 56, 57, 58, 127, 128, 129, 254, 255, 256, 257, 258, 65534, 65535, 65536, 65537, 65538}

func TestP71BytesAsWritten(t *testing.T) {
	x := func(n int) string { return strings.Repeat("x", n) }
	for _, c := range []struct{ s, want string }{
		{"", "\x80"},
		{"\x00", "\x00"},
		{"\x01", "\x01"},
		{"\x7f", "\x7f"},
		{"\x80", "\x81\x80"},
		{"\x81", "\x81\x81"},
		{"\xff", "\x81\xff"},
		{"\x00\x00", "\x82\x00\x00"},
		{"\x00\x7f", "\x82\x00\x7f"},
		{"dog", "\x83dog"},
		{x(54), "\xb6" + x(54)},
		{x(55), "\xb7" + x(55)},
		{x(56), "\xb8\x38" + x(56)},
		{x(255), "\xb8\xff" + x(255)},
		{x(256), "\xb9\x01\x00" + x(256)},
		{x(65535), "\xb9\xff\xff" + x(65535)},
		{x(65536), "\xba\x01\x00\x00" + x(65536)},
	} {
		wantBoth(t, leaf(c.s), c.want)
	}
	for n := range 256 {
		s := chars(n)
		wantBoth(t, leaf(s), leaf(s).written())
		wantBoth(t, listOf(leaf(s), leaf(s)), listOf(leaf(s), leaf(s)).written())
	}
	for _, n := range edges {
		for _, s := range []string{strings.Repeat("\x00", n), strings.Repeat("\x80", n), some(n, n)} {
			wantBoth(t, leaf(s), leaf(s).written())
			wantBoth(t, listOf(leaf(s)), listOf(leaf(s)).written())
		}
	}
}

func TestP71ListsAsWritten(t *testing.T) {
	a := leaf("a")
	many := func(n int) tree { return listOf(slices.Repeat([]tree{a}, n)...) }
	as := func(n int) string { return strings.Repeat("a", n) }
	empty := listOf()
	for _, c := range []struct {
		x    tree
		want string
	}{
		{empty, "\xc0"},
		{listOf(empty), "\xc1\xc0"},
		{listOf(empty, empty), "\xc2\xc0\xc0"},
		{listOf(leaf("")), "\xc1\x80"},
		{listOf(leaf("\x7f")), "\xc1\x7f"},
		{listOf(leaf("\x80")), "\xc2\x81\x80"},
		{listOf(empty, listOf(empty), listOf(empty, listOf(empty))), "\xc7\xc0\xc1\xc0\xc3\xc0\xc1\xc0"},
		{listOf(leaf("cat"), listOf(leaf("dog"), empty), leaf("")), "\xcb\x83cat\xc5\x83dog\xc0\x80"},
		{many(55), "\xf7" + as(55)},
		{many(56), "\xf8\x38" + as(56)},
		{many(255), "\xf8\xff" + as(255)},
		{many(256), "\xf9\x01\x00" + as(256)},
		{many(65535), "\xf9\xff\xff" + as(65535)},
		{many(65536), "\xfa\x01\x00\x00" + as(65536)},
		{listOf(leaf(as(54))), "\xf7\xb6" + as(54)},
		{listOf(leaf(as(55))), "\xf8\x38\xb7" + as(55)},
		{listOf(leaf(as(56))), "\xf8\x3a\xb8\x38" + as(56)},
		{listOf(many(54)), "\xf7\xf6" + as(54)},
		{listOf(many(55)), "\xf8\x38\xf7" + as(55)},
		{listOf(many(56), a), "\xf8\x3b\xf8\x38" + as(56) + "a"},
	} {
		wantBoth(t, c.x, c.want)
	}
	for _, n := range edges {
		for _, x := range []tree{many(n), listOf(many(n)), listOf(many(n), many(n), empty, a)} {
			wantBoth(t, x, x.written())
		}
	}
}

// It is the deepest item that counts, wherever it stands.
func TestP71ListsInLists(t *testing.T) {
	deep := func(n int, x tree) []tree {
		y := inLists(n-1, x)
		flat := listOf(leaf("a"), listOf())
		return []tree{listOf(y), listOf(y, flat), listOf(flat, y), listOf(flat, y, flat), listOf(leaf("b"), y, y)}
	}
	for n := 1; n <= 64; n++ {
		for _, x := range append(deep(n, leaf("a")), deep(n, leaf(some(n, 60)))...) {
			wantBoth(t, x, x.written())
		}
		if n < 64 {
			for _, x := range deep(n, listOf()) {
				wantBoth(t, x, x.written())
			}
		}
	}
	for _, n := range []int{65, 66, 67, 100, 1000} {
		for _, x := range append(deep(n, leaf("a")), deep(n-1, listOf())...) {
			wantEncode(t, x.row(), "", api.ErrLong)
			wantDecode(t, x.written(), nil, api.ErrLong)
		}
	}
}

// So deep that a call a list would need much room.
func TestP71VeryDeepLists(t *testing.T) {
	l := make([]api.Node, 2_000_000)
	for i := range l {
		l[i] = api.Node{List: true, Size: len(l) - 1 - i}
	}
	wantEncode(t, l, "", api.ErrLong)
	l[len(l)-1].Size = 1
	wantEncode(t, l, "", api.ErrForm)
	l[len(l)-1] = api.Node{Bytes: []byte("a")}
	wantEncode(t, l, "", api.ErrLong)
	wantDecode(t, strings.Repeat("\xc1", 1<<20), nil, api.ErrForm)
	wantDecode(t, strings.Repeat("\xf8", 1<<20), nil, api.ErrForm)
	wantDecode(t, inLists(5000, listOf()).written(), nil, api.ErrLong)
}

func TestP71NotOneItem(t *testing.T) {
	a := api.Node{Bytes: []byte("a")}
	none := api.Node{}
	list := func(n int) api.Node { return api.Node{List: true, Size: n} }
	sized := func(n int) api.Node { return api.Node{Bytes: []byte("a"), Size: n} }
	full := api.Node{List: true, Bytes: []byte("a")}
	for _, l := range [][]api.Node{
		nil,
		{},
		{list(1)},
		{list(2), a},
		{list(0), a},
		{list(1), a, a},
		{a, a},
		{none, none},
		{a, list(0)},
		{list(0), list(0)},
		{list(-1)},
		{list(-1), a},
		{list(-2), a, a},
		{list(1), list(-1)},
		{list(2), list(-1), a},
		{list(2), list(-2), a},
		{list(2), a, list(-1)},
		{list(1), list(1)},
		{list(2), a, list(1)},
		{list(2), list(2), a},
		{list(3), list(2), a, list(1)},
		{list(3), list(1), list(1), a},
		{list(4), list(2), list(2), a, a},
		{full},
		{list(1), full},
		{{List: true, Size: 1, Bytes: []byte("a")}, a},
		{sized(1)},
		{sized(1), a},
		{sized(-1)},
		{list(1), sized(1)},
		{list(1), sized(-1)},
		{list(2), sized(1), a},
		{list(2), sized(-1), a},
		{{Size: 1}, a},
		{list(1), {Size: 1}},
	} {
		wantEncode(t, l, "", api.ErrForm)
	}
	for _, n := range []int{math.MaxInt, math.MaxInt - 1, math.MaxInt - 2, math.MaxInt - 3, math.MinInt, math.MinInt + 1, math.MaxInt32, math.MinInt32} {
		for _, l := range [][]api.Node{
			{list(n)},
			{list(n), a},
			{list(n), list(0), a},
			{list(1), list(n)},
			{list(2), list(n), a},
			{list(2), a, list(n)},
			{list(3), list(n), list(n), list(n)},
			{sized(n)},
			{sized(n), a},
			{list(1), sized(n)},
			{list(2), sized(n), a},
			{list(2), a, sized(n)},
		} {
			wantEncode(t, l, "", api.ErrForm)
		}
	}
}

// All rows of up to 5 of these nodes.
func TestP71SmallRows(t *testing.T) {
	nodes := []api.Node{{}, {Bytes: []byte("\x80")}, {Size: 1}, {List: true, Bytes: []byte("a")}}
	for n := -1; n <= 5; n++ {
		nodes = append(nodes, api.Node{List: true, Size: n})
	}
	rows := [][]api.Node{nil}
	for range 5 {
		var longer [][]api.Node
		for _, l := range rows {
			for _, x := range nodes {
				longer = append(longer, append(slices.Clip(l), x))
			}
		}
		for _, l := range longer {
			checkEncode(t, l)
		}
		rows = longer
	}
}

// Rows that are well made but for one node.
func TestP71OneNodeAmiss(t *testing.T) {
	r := random(1)
	for range 60 {
		l := someTree(r, 4).row()
		checkEncode(t, l)
		for i, x := range l {
			for _, n := range []int{-x.Size - 1, x.Size - 1, x.Size + 1, x.Size + 2, 0, -x.Size, len(l)} {
				l[i].Size = n
				checkEncode(t, l)
			}
			l[i] = api.Node{List: !x.List, Bytes: x.Bytes, Size: x.Size}
			checkEncode(t, l)
			l[i] = api.Node{List: x.List, Bytes: append([]byte("a"), x.Bytes...), Size: x.Size}
			checkEncode(t, l)
			l[i] = x
		}
		checkEncode(t, l[1:])
		checkEncode(t, l[:len(l)-1])
		checkEncode(t, append(l, api.Node{}))
	}
}

func TestP71FormAheadOfLong(t *testing.T) {
	long := api.Node{Bytes: make([]byte, 1<<20)}
	list := func(n int) api.Node { return api.Node{List: true, Size: n} }
	for _, l := range [][]api.Node{
		{long, long},
		{list(1), long, long},
		{list(2), long, list(1)},
		{list(2), long, {Size: 1}},
		{list(2), long, {List: true, Bytes: []byte("a")}},
		{list(2), list(2), long},
		{{List: true, Size: 1, Bytes: []byte("a")}, long},
		{{Size: 1, Bytes: long.Bytes}},
	} {
		wantEncode(t, l, "", api.ErrForm)
	}
	deep := inLists(70, leaf("a")).row()
	wantEncode(t, deep, "", api.ErrLong)
	for i := range deep {
		deep[i].Size++
		wantEncode(t, deep, "", api.ErrForm)
		deep[i].Size--
	}
	wantEncode(t, append(deep, api.Node{}), "", api.ErrForm)
}

func TestP71JustMaxRlp(t *testing.T) {
	const most = 1 << 20 // bytes of a writing
	xs := func(n int) string { return strings.Repeat("x", n) }
	many := func(n int, x tree) tree { return listOf(slices.Repeat([]tree{x}, n)...) }
	for _, c := range []struct {
		just tree // whose writing has just so many bytes
		more tree // whose writing has one more
	}{
		{leaf(xs(most - 4)), leaf(xs(most - 3))},
		{listOf(leaf(xs(most - 8))), listOf(leaf(xs(most - 7)))},
		{listOf(leaf(xs(most-9)), leaf("a")), listOf(leaf(xs(most-9)), leaf("\x80"))},
		{listOf(leaf(xs(most-9)), listOf()), listOf(leaf(xs(most-9)), listOf(), listOf())},
		{many(most-4, leaf("a")), many(most-3, leaf("a"))},
		{many(most-4, leaf("")), many(most-3, leaf(""))},
		{many(most-4, listOf()), many(most-3, listOf())},
		{many((most-4)/2, leaf("\x80")), many((most-4)/2+1, leaf("\x80"))},
		{inLists(60, leaf(xs(most-4*61))), inLists(60, leaf(xs(most-4*61+1)))},
	} {
		s := c.just.written()
		if len(s) != most {
			t.Errorf("%d bytes instead of %d", len(s), most)
		}
		wantBoth(t, c.just, s)
		wantDecode(t, s[:most-1], nil, api.ErrShort)
		wantDecode(t, s+"\x80", nil, api.ErrLong)
		wantEncode(t, c.more.row(), "", api.ErrLong)
		wantDecode(t, c.more.written(), nil, api.ErrLong)
	}
	for _, first := range []string{"\x80", "\x81\x7f", "\xbf", "\xb8\x00", "\xc1\x81"} {
		rest := strings.Repeat("\x80", most-len(first))
		wantDecode(t, first+rest, nil, modelError(first+rest))
		wantDecode(t, first+rest+"\x80", nil, api.ErrLong)
		wantDecode(t, first+rest+rest, nil, api.ErrLong)
	}
}

func modelError(b string) api.Errno {
	_, err := modelDecode(b)
	return err
}

// Nodes may share their bytes: then there is far more to be written than there
// is in memory.
func TestP71FarTooLong(t *testing.T) {
	long := api.Node{Bytes: make([]byte, 1<<28)}
	wantEncode(t, []api.Node{long}, "", api.ErrLong)
	l := slices.Repeat([]api.Node{long}, 1<<18)
	l[0] = api.Node{List: true, Size: len(l) - 1}
	wantEncode(t, l, "", api.ErrLong)
	l[0].Size--
	wantEncode(t, l, "", api.ErrForm)
}

func TestP71Unreadable(t *testing.T) {
	x := func(n int) string { return strings.Repeat("x", n) }
	for _, c := range []struct {
		b    string
		want api.Errno
	}{
		// no byte is left
		{"", api.ErrShort},
		// the bytes of a number aren't all there
		{"\xb8", api.ErrShort},
		{"\xb9", api.ErrShort},
		{"\xb9\x01", api.ErrShort},
		{"\xbf\x01\x01\x01\x01\x01\x01\x01", api.ErrShort},
		{"\xf8", api.ErrShort},
		{"\xf9\x01", api.ErrShort},
		{"\xff\x01\x01\x01\x01\x01\x01\x01", api.ErrShort},
		{"\xc1\xb8", api.ErrShort},
		{"\xc2\xb9\x01", api.ErrShort},
		// noughts ahead
		{"\xb8\x00", api.ErrForm},
		{"\xb9\x00\x38" + x(56), api.ErrForm},
		{"\xf9\x00\x38" + x(56), api.ErrForm},
		{"\xba\x00\x01\x00" + x(256), api.ErrForm},
		{"\xc4\xb9\x00\x38x", api.ErrForm},
		// at most 55
		{"\xb8\x01x", api.ErrForm},
		{"\xb8\x37" + x(55), api.ErrForm},
		{"\xf8\x37" + x(55), api.ErrForm},
		{"\xf8\x00", api.ErrForm},
		{"\xc2\xb8\x37", api.ErrForm},
		// all bytes end ahead of the item's end
		{"\x81", api.ErrShort},
		{"\x82x", api.ErrShort},
		{"\xb7" + x(54), api.ErrShort},
		{"\xb8\x38" + x(55), api.ErrShort},
		{"\xb9\x01\x00" + x(255), api.ErrShort},
		{"\xc1", api.ErrShort},
		{"\xc2x", api.ErrShort},
		{"\xf7" + x(54), api.ErrShort},
		{"\xf8\x38" + x(55), api.ErrShort},
		{"\xc1\x81", api.ErrShort},
		{"\xc1\xc1", api.ErrShort},
		// its list ends ahead of that
		{"\xc1\x81\x80", api.ErrForm},
		{"\xc1\xc1\xc0", api.ErrForm},
		{"\xc2\x82xx", api.ErrForm},
		{"\xc3\xc1\xc2xx", api.ErrForm},
		{"\xc2x\x81\x80", api.ErrForm},
		{"\xc1\xb8\x38" + x(56), api.ErrForm},
		{"\xc2\xb8\x38" + x(56), api.ErrForm},
		{"\xc1\xf8\x38" + x(56), api.ErrForm},
		// one byte below 128, written with 129
		{"\x81\x00", api.ErrForm},
		{"\x81\x7f", api.ErrForm},
		{"\xc2\x81\x00", api.ErrForm},
		{"\xc3\x80\x81\x7f", api.ErrForm},
		// bytes are left
		{"\x80\x80", api.ErrForm},
		{"xx", api.ErrForm},
		{"\x81\x80\x80", api.ErrForm},
		{"\xc0\xc0", api.ErrForm},
		{"\xc1xx", api.ErrForm},
		{"\xb8\x38" + x(57), api.ErrForm},
		{"\xf8\x38" + x(57), api.ErrForm},
	} {
		wantDecode(t, c.b, nil, c.want)
		if err := modelError(c.b); err != c.want {
			t.Errorf("the model: %x: %v, want %v", c.b, err, c.want)
		}
	}
}

// Two errors hold at once, and the one that the chapter names first is answered.
func TestP71WhatComesFirst(t *testing.T) {
	x := func(n int) string { return strings.Repeat("x", n) }
	in64 := func(b string) string { // b in 64 lists that end where b ends
		for range 64 {
			b = headed(b, 192, 247)
		}
		return b
	}
	for _, c := range []struct {
		b    string
		want api.Errno
	}{
		{"\xb9\x00", api.ErrShort},     // a number isn't all there, with a nought ahead
		{"\xba\x00\x00", api.ErrShort}, // and at most 55
		{"\xc1\xb9\x01", api.ErrShort}, // a number isn't all there, and its list ends
		{"\xb9\x00\xff", api.ErrForm},  // a nought ahead, and b ends
		{"\xb8\x37", api.ErrForm},      // at most 55, and b ends
		{"\xb8\x01", api.ErrForm},      // likewise
		{"\xc1\xb8\x37", api.ErrForm},  // and the list ends, too
		{"\xc1\xb8\x38", api.ErrShort}, // b ends, and so does the list
		{"\xc1\x82x", api.ErrShort},    // likewise
		{"\xc1\xc2x", api.ErrShort},    // likewise
		{"\xc1\xbf" + chars(0, 1, 1, 1, 1, 1, 1), api.ErrShort},
		{"\xc1\xbf" + chars(0, 1, 1, 1, 1, 1, 1, 1), api.ErrForm},
		{"\xc2x\x81", api.ErrShort},            // b ends ahead of what would be one byte
		{"\xc2\x81\x7f\x80", api.ErrForm},      // one byte with 129, and bytes are left
		{"\xc2\x82", api.ErrShort},             // the list isn't all there, nor its item
		{"\xc3\x81\x7f", api.ErrShort},         // the list isn't all there, its item is amiss
		{"\xc3\xc2\x81\x7f\xb8", api.ErrForm},  // an item amiss ahead of one that isn't all there
		{"\xc4\xb8\x81\x7f\xb8", api.ErrShort}, // an item that isn't all there ahead of one amiss
		{"\xc3\x81\x00\xb8", api.ErrForm},      // likewise the other way round
		{"\xc3\xc1\xc1\xb9", api.ErrForm},      // a list's item ends behind it, ahead of a number that isn't there
		{"\xc0\xb8", api.ErrForm},              // bytes are left, which aren't an item
		{in64("\xc0"), api.ErrLong},            // a list in 64
		{in64("\xc1x"), api.ErrLong},
		{in64("\xc2\x81\x7f"), api.ErrLong}, // whose item is amiss
		{in64("\xc1\x81"), api.ErrLong},     // whose item isn't all there
		{in64("\xc0\x81\x7f"), api.ErrLong}, // an item amiss behind it
		{in64("\x81\x7f\xc0"), api.ErrForm}, // an item amiss ahead of it
		{in64("\xc0") + "x", api.ErrLong},   // bytes are left
		{in64("\xc1"), api.ErrShort},        // b ends ahead of its end
		{in64("\xc1") + "x", api.ErrForm},   // its list ends ahead of its end
		{in64("\xf8"), api.ErrShort},
		{in64("\xf8\x37"), api.ErrForm},
		{in64("\xf9\x00\x38" + x(56)), api.ErrForm},
		{in64("\xf8\x38" + x(55)), api.ErrShort},
		{in64("\xf8\x38"+x(55)) + "x", api.ErrForm},
		{in64("\xf8\x38" + x(56)), api.ErrLong},
	} {
		wantDecode(t, c.b, nil, c.want)
		if err := modelError(c.b); err != c.want {
			t.Errorf("the model: %x: %v, want %v", c.b, err, c.want)
		}
	}
	wantBoth(t, inLists(64, leaf("x")), in64("x"))
}

// Numbers of up to eight bytes: those that are no int, those about which a sum
// with a place goes round, and those that differ by their high bytes alone.
func TestP71GreatNumbers(t *testing.T) {
	sizes := []uint64{math.MaxInt64 + 1, math.MaxInt64 + 2, 1<<63 + 1<<62, 0xff00000000000000}
	for i := range uint64(80) {
		sizes = append(sizes, math.MaxUint64-i, math.MaxInt64-i, math.MaxUint32-i)
	}
	for n := 8; n < 64; n++ {
		power := uint64(1) << n
		sizes = append(sizes, power-1, power, power+1, power+56, power+60, power+64)
	}
	rest := some(1, 60)
	for _, n := range sizes {
		digits := string(new(big.Int).SetUint64(n).Bytes())
		if n < 60 {
			t.Fatal(n)
		}
		for _, base := range []int{183, 247} {
			head := chars(base+len(digits)) + digits
			for _, b := range []string{head, head + rest[:56], head + rest} {
				wantDecode(t, b, nil, api.ErrShort)
				wantDecode(t, headed(b, 192, 247), nil, api.ErrShort)
				wantDecode(t, headed("a"+b, 192, 247), nil, api.ErrShort)
				wantDecode(t, headed(headed(b, 192, 247), 192, 247)+rest, nil, modelError(headed(headed(b, 192, 247), 192, 247)+rest))
			}
			for cut := range len(head) {
				wantDecode(t, head[:cut], nil, api.ErrShort)
			}
		}
	}
}

// Each count of noughts ahead of a number, and each number of at most 55, in
// each count of bytes: none of them may be.
func TestP71NumbersAmiss(t *testing.T) {
	for _, base := range []int{183, 247} {
		for digits := 1; digits <= 8; digits++ {
			for _, n := range []int{0, 1, 2, 54, 55, 56, 57, 255, 256, 300} {
				number := word.Bytes(word.Of(uint64(n)))
				if n > 255 && digits == 1 {
					continue
				}
				b := chars(base+digits) + string(number[32-digits:]) + strings.Repeat("x", n)
				want := api.ErrForm
				if n > 255 && digits == 2 || 55 < n && n < 256 && digits == 1 {
					want = api.OK
				}
				if err := modelError(b); err != want {
					t.Errorf("the model: %.40x: %v, want %v", b, err, want)
				}
				checkDecode(t, b)
				checkDecode(t, b[:len(b)-n])
				checkDecode(t, headed(b, 192, 247))
				checkDecode(t, headed(b[:len(b)-n], 192, 247)+strings.Repeat("x", n))
			}
		}
	}
}

// All texts of up to two bytes, and of up to five of these.
func TestP71ShortTexts(t *testing.T) {
	checkDecode(t, "")
	for i := range 256 {
		checkDecode(t, chars(i))
		for j := range 256 {
			checkDecode(t, chars(i, j))
		}
	}
	texts := []string{""}
	for range 5 {
		var longer []string
		for _, s := range texts {
			for _, c := range []byte{0, 1, 55, 56, 127, 128, 129, 130, 184, 192, 193, 194, 196, 248} {
				longer = append(longer, s+string([]byte{c}))
			}
		}
		for _, s := range longer {
			checkDecode(t, s)
		}
		texts = longer
	}
}

// Writings that are well made but for one byte.
func TestP71OneByteAmiss(t *testing.T) {
	x := func(n int) tree { return leaf(strings.Repeat("x", n)) }
	l := []tree{
		leaf("dog"), leaf("\x80"), x(56), x(256), listOf(x(55)), listOf(x(56), x(1)), listOf(listOf(), x(200), listOf(x(60))),
		listOf(leaf("cat"), leaf("dog")), listOf(listOf(), listOf(listOf()), listOf(listOf(), listOf(listOf()))), inLists(64, leaf("a")),
	}
	for i := range 20 {
		l = append(l, someTree(random(i), 3))
	}
	for _, x := range l {
		s := x.written()
		if len(s) > 600 {
			continue
		}
		for i := range len(s) {
			for _, c := range []int{0, 1, 54, 55, 56, 57, 127, 128, 129, 130, 183, 184, 185, 191, 192, 193, 247, 248, 249, 255, int(s[i]) + 1, int(s[i]) - 1} {
				checkDecode(t, s[:i]+chars(c)+s[i+1:])
				checkDecode(t, s[:i]+chars(c)+s[i:])
			}
			checkDecode(t, s[:i])
			checkDecode(t, s[:i]+s[i+1:])
		}
		for c := range 256 {
			checkDecode(t, s+chars(c))
		}
	}
}

func TestP71TextsOfAnyBytes(t *testing.T) {
	for i := range 20000 {
		checkDecode(t, some(i, i%90))
		checkDecode(t, headed(some(i, i%90), 192, 247))
	}
}

func TestP71Number(t *testing.T) {
	const ones = math.MaxUint64
	for _, c := range []struct {
		a    api.Word
		want string
	}{
		{api.Word{}, ""},
		{api.Word{1}, "\x01"},
		{api.Word{127}, "\x7f"},
		{api.Word{128}, "\x80"},
		{api.Word{255}, "\xff"},
		{api.Word{256}, "\x01\x00"},
		{api.Word{0x10203}, "\x01\x02\x03"},
		{api.Word{ones}, strings.Repeat("\xff", 8)},
		{api.Word{0, 1}, "\x01" + strings.Repeat("\x00", 8)},
		{api.Word{0, 0, 0, 1}, "\x01" + strings.Repeat("\x00", 24)},
		{api.Word{ones, ones, ones, 1<<56 - 1}, strings.Repeat("\xff", 31)},
		{api.Word{1, 0, 0, 1 << 56}, "\x01" + strings.Repeat("\x00", 30) + "\x01"},
		{api.Word{0, 0, 0, 1 << 63}, "\x80" + strings.Repeat("\x00", 31)},
		{api.Word{ones, ones, ones, ones}, strings.Repeat("\xff", 32)},
	} {
		if got := rlp.Number(c.a); string(got) != c.want {
			t.Errorf("Number(%x) = %x, want %x", c.a, got, c.want)
		}
	}
	for n := range uint(256) {
		power := word.Shl(word.Of(1), n)
		for _, a := range []api.Word{power, word.Sub(power, word.Of(1)), word.Not(power), word.From([]byte(some(int(n), int(n/8)+1)))} {
			b := word.Bytes(a)
			if got, want := rlp.Number(a), new(big.Int).SetBytes(b[:]).Bytes(); !bytes.Equal(got, want) {
				t.Errorf("Number(%x) = %x, want %x", a, got, want)
			}
			if got := word.From(rlp.Number(a)); got != a {
				t.Errorf("From(Number(%x)) = %x", a, got)
			}
		}
	}
}

func TestP72ThereAndBack(t *testing.T) {
	for i := range 2000 {
		x := someTree(random(i), i%9)
		l := x.row()
		b, err := rlp.Encode(l)
		if want := x.written(); string(b) != want || err != api.OK {
			t.Errorf("%d: Encode = %.60x .., %v, want %.60x ..", i, b, err, want)
		}
		back, err := rlp.Decode(b)
		if !sameRow(back, l) || err != api.OK {
			t.Errorf("%d: Decode(%.60x ..) = %d nodes, %v, want %d nodes", i, b, len(back), err, len(l))
		}
		again, err := rlp.Encode(back)
		if !bytes.Equal(again, b) || err != api.OK {
			t.Errorf("%d: Encode of Decode(%.60x ..) = %.60x .., %v", i, b, again, err)
		}
	}
}

// No two rows have the same writing.
func TestP72WritingsDiffer(t *testing.T) {
	seen := map[string][]api.Node{}
	trees := []tree{leaf(""), leaf("\x00"), leaf("\x7f"), leaf("\x80"), leaf("\xc0"), listOf()}
	for range 2 {
		for _, x := range slices.Clone(trees) {
			for _, y := range trees[:6] {
				trees = append(trees, listOf(x), listOf(x, y), listOf(y, x, y))
			}
		}
	}
	for _, x := range trees {
		l := x.row()
		b, err := rlp.Encode(l)
		if other, ok := seen[string(b)]; ok && !sameRow(other, l) || err != api.OK {
			t.Errorf("Encode(%v) = %x, %v, and so %v", l, b, err, other)
		}
		seen[string(b)] = l
	}
}

// A list without elements may be nil or empty.
func TestNilOrEmpty(t *testing.T) {
	for _, l := range [][]api.Node{{{Bytes: []byte{}}}, {{Bytes: nil}}} {
		wantEncode(t, l, "\x80", api.OK)
	}
	for _, l := range [][]api.Node{{{List: true, Bytes: []byte{}}}, {{List: true, Bytes: make([]byte, 0, 9)}}} {
		wantEncode(t, l, "\xc0", api.OK)
	}
	for _, l := range [][]api.Node{nil, {}, make([]api.Node, 0, 9)} {
		wantEncode(t, l, "", api.ErrForm)
	}
	for _, b := range [][]byte{nil, {}, make([]byte, 0, 9)} {
		if l, err := rlp.Decode(b); len(l) != 0 || err != api.ErrShort {
			t.Errorf("Decode of no bytes = %v, %v", l, err)
		}
	}
}

// What is handed in has spare room that Encode and Decode leave alone, too.
func TestArgumentsStay(t *testing.T) {
	for i := range 200 {
		x := listOf(someTree(random(i), 4), leaf("a"), leaf("\x80"), leaf(some(i, 60)))
		room := make([]byte, 0, 1<<20)
		l := append(x.row(), api.Node{Bytes: []byte("spare"), Size: 7}, api.Node{List: true})
		for j := range l {
			room = append(append(room, l[j].Bytes...), "spare room"...)
			l[j].Bytes = room[len(room)-len(l[j].Bytes)-10 : len(room)-10 : len(room)]
		}
		nodes, whole := slices.Clone(l), bytes.Clone(room)
		b, err := rlp.Encode(l[:len(l)-2])
		if err != api.OK || string(b) != x.written() {
			t.Errorf("%d: Encode = %.60x .., %v", i, b, err)
		}
		rlp.Encode(l)
		if !sameRow(l, nodes) || !bytes.Equal(room, whole) {
			t.Errorf("%d: Encode changed what was handed in", i)
		}
		clear(b[:cap(b)])
		if !bytes.Equal(room, whole) {
			t.Errorf("%d: Encode's answer shares memory with what was handed in", i)
		}
	}
	for i := range 200 {
		b := []byte(listOf(someTree(random(i), 4), leaf("a")).written() + "spare room")
		whole := bytes.Clone(b)
		l, err := rlp.Decode(b[:len(b)-10])
		if rlp.Decode(b); err != api.OK || !bytes.Equal(b, whole) {
			t.Errorf("%d: Decode(%.60x ..): %v, and then %.60x", i, whole, err, b)
		}
		want := modelRow(t, whole[:len(whole)-10])
		clear(b)
		if !sameRow(l, want) {
			t.Errorf("%d: Decode's answer changed with what was handed in", i)
		}
	}
}

func modelRow(t *testing.T, b []byte) []api.Node {
	t.Helper()
	l, err := modelDecode(string(b))
	if err != api.OK {
		t.Errorf("the model: %.60x: %v", b, err)
	}
	return l
}

// No two lists of an answer share memory, their spare room counted in.
func TestAnswersShareNothing(t *testing.T) {
	for i := range 200 {
		b := []byte(listOf(someTree(random(i), 4), leaf(""), leaf("a"), leaf("a"), leaf(some(i, 60))).written())
		l, _ := rlp.Decode(b)
		other, _ := rlp.Decode(b)
		want := modelRow(t, b)
		for j := range l {
			mine := l[j].Bytes[:cap(l[j].Bytes)]
			for k := range mine {
				mine[k] ^= 255
			}
			l[j].Bytes = nil
			want[j].Bytes = nil
			if !sameRow(l[:j+1], want[:j+1]) || !sameRow(l[j+1:], want[j+1:]) {
				t.Errorf("%d: the bytes of node %d are another node's, too", i, j)
			}
		}
		if !sameRow(other, modelRow(t, b)) {
			t.Errorf("%d: two answers share memory", i)
		}
	}
	for _, a := range []api.Word{{}, {1}, {1, 2, 3, 4}} {
		want := string(rlp.Number(a))
		first := rlp.Number(a)
		first = first[:cap(first)]
		for i := range first {
			first[i] ^= 255
		}
		if got := rlp.Number(a); string(got) != want {
			t.Errorf("Number(%x) = %x, once an earlier answer is changed", a, got)
		}
	}
}

func TestExamples(t *testing.T) {
	dog, cat := api.Node{Bytes: []byte("dog")}, api.Node{Bytes: []byte("cat")}
	for _, c := range []struct {
		l    []api.Node
		want string
	}{
		{[]api.Node{dog}, chars(131) + "dog"},
		{[]api.Node{{List: true, Size: 2}, cat, dog}, chars(200, 131) + "cat" + chars(131) + "dog"},
		{[]api.Node{{}}, chars(128)},
		{[]api.Node{{List: true}}, chars(192)},
	} {
		wantEncode(t, c.l, c.want, api.OK)
		wantDecode(t, c.want, c.l, api.OK)
	}
}
