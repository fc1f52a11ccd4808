package state_test

import (
	"bytes"
	"fmt"
	"maps"
	"math"
	"math/big"
	"math/rand/v2"
	"slices"
	"strings"
	"testing"

	"smithy/api"
	"smithy/state"
)

// pool are the addresses that rows are drawn from, not in their order.
func pool() []api.Address {
	return []api.Address{{19: 2}, {19: 1}, {0: 1}, {}, {0: 255, 19: 1}, {9: 200}}
}

// keys are the keys that rows are drawn from, not in their order.
func keys() []api.Word {
	return []api.Word{{1}, {}, {0, 0, 0, 1}, {5, 1}, {math.MaxUint64}}
}

// number is a word's number, part by part.
func number(w api.Word) *big.Int {
	n := new(big.Int)
	for i := 3; i >= 0; i-- {
		n.Lsh(n, 64).Or(n, new(big.Int).SetUint64(w[i]))
	}
	return n
}

// same tells whether two accounts are the same; a list of nothing may be nil.
func same(x, y api.Account) bool {
	return x.Address == y.Address && x.Nonce == y.Nonce && x.Balance == y.Balance &&
		bytes.Equal(x.Code, y.Code) && slices.Equal(x.Storage, y.Storage)
}

// whole is an account that shares nothing with another one.
func whole(x api.Account) api.Account {
	x.Code = slices.Clone(x.Code)
	x.Storage = slices.Clone(x.Storage)
	return x
}

// wholeLog is a log that shares nothing with another one.
func wholeLog(l api.Log) api.Log {
	l.Topics = slices.Clone(l.Topics)
	l.Data = slices.Clone(l.Data)
	return l
}

// answered is what a world answers of an address.
type answered struct {
	x     api.Account
	known bool
}

// world answers what it holds, in its own memory; others it doesn't know.
type world map[api.Address]answered

func (w world) Account(a api.Address) (api.Account, bool) { return w[a].x, w[a].known }

// first is an account as a state has it at first.
func (w world) first(a api.Address) api.Account {
	if x, known := w.Account(a); known {
		return x
	}
	return api.Account{Address: a}
}

// copied is a world that shares nothing with w.
func (w world) copied() world {
	c := world{}
	for a, t := range w {
		c[a] = answered{whole(t.x), t.known}
	}
	return c
}

// calls are all that a state can be asked and told, and a model of it too.
type calls interface {
	Missing() (api.Address, bool)
	Empty(a api.Address) bool
	Nonce(a api.Address) uint64
	Balance(a api.Address) api.Word
	Code(a api.Address) []byte
	SetNonce(a api.Address, n uint64)
	SetBalance(a api.Address, n api.Word)
	SetCode(a api.Address, code []byte)
	Make(a api.Address)
	Load(a api.Address, key api.Word) api.Word
	First(a api.Address, key api.Word) api.Word
	Set(a api.Address, key, value api.Word)
	Touch(a api.Address) bool
	TouchSlot(a api.Address, key api.Word) bool
	Add(refund int64)
	Refund() int64
	Log(l api.Log)
	Logs() []api.Log
	Destroy(a api.Address)
	Destroyed(a api.Address) bool
	Mark() int
	Back(mark int)
	Changes() []api.Account
}

// slot is an account's slot.
type slot struct {
	a   api.Address
	key api.Word
}

// facts are all that goes back to a mark: each account whole, but for its
// slots, which stand beside it.
type facts struct {
	accounts               map[api.Address]api.Account
	slots                  map[slot]api.Word
	fresh, warm, destroyed map[api.Address]bool
	warmSlots              map[slot]bool
	refund                 *big.Int
	logs                   []api.Log
}

// copied are facts that share nothing that a model changes.
func (f facts) copied() facts {
	return facts{
		maps.Clone(f.accounts), maps.Clone(f.slots), maps.Clone(f.fresh), maps.Clone(f.warm),
		maps.Clone(f.destroyed), maps.Clone(f.warmSlots), f.refund, slices.Clone(f.logs),
	}
}

// text tells facts apart.
func (f facts) text() string {
	return fmt.Sprint(f.accounts, f.slots, f.fresh, f.warm, f.destroyed, f.warmSlots, wrapped(f.refund), f.logs)
}

// wrapped is a number that goes round as those of 64 bits with a sign do.
func wrapped(n *big.Int) int64 {
	half := new(big.Int).Lsh(big.NewInt(1), 63)
	n = new(big.Int).Add(n, half)
	n.Mod(n, new(big.Int).Lsh(big.NewInt(1), 64))
	return n.Sub(n, half).Int64()
}

// model is a state that keeps all facts of each mark.
type model struct {
	world world
	facts
	marks   map[int]facts
	missing api.Address
	misses  bool
}

func newModel(w world) *model {
	f := facts{
		map[api.Address]api.Account{}, map[slot]api.Word{}, map[api.Address]bool{}, map[api.Address]bool{},
		map[api.Address]bool{}, map[slot]bool{}, new(big.Int), nil,
	}
	for _, a := range pool() {
		x := whole(w.first(a))
		for _, s := range x.Storage {
			f.slots[slot{a, s.Key}] = s.Value
		}
		x.Storage = nil
		f.accounts[a] = x
	}
	return &model{world: w, facts: f, marks: map[int]facts{0: f.copied()}}
}

// copied is a model that knows what m knows, but no marks.
func (m *model) copied() *model {
	c := *m
	c.facts, c.marks = m.facts.copied(), nil
	return &c
}

// ask notes an address that isn't known.
func (m *model) ask(a api.Address) {
	if _, known := m.world.Account(a); !known && !m.misses {
		m.missing, m.misses = a, true
	}
}

// with sets what an account is made of.
func (m *model) with(a api.Address, set func(x *api.Account)) {
	m.ask(a)
	x := m.accounts[a]
	set(&x)
	m.accounts[a] = x
}

func (m *model) Missing() (api.Address, bool) { return m.missing, m.misses }

func (m *model) Empty(a api.Address) bool {
	m.ask(a)
	return same(m.accounts[a], api.Account{Address: a})
}

func (m *model) Nonce(a api.Address) uint64 {
	m.ask(a)
	return m.accounts[a].Nonce
}

func (m *model) Balance(a api.Address) api.Word {
	m.ask(a)
	return m.accounts[a].Balance
}

func (m *model) Code(a api.Address) []byte {
	m.ask(a)
	return m.accounts[a].Code
}

func (m *model) SetNonce(a api.Address, n uint64) {
	m.with(a, func(x *api.Account) { x.Nonce = n })
}

func (m *model) SetBalance(a api.Address, n api.Word) {
	m.with(a, func(x *api.Account) { x.Balance = n })
}

func (m *model) SetCode(a api.Address, code []byte) {
	m.with(a, func(x *api.Account) { x.Code = slices.Clone(code) })
}

func (m *model) Make(a api.Address) {
	m.ask(a)
	m.fresh[a] = true
	for s := range m.slots {
		if s.a == a {
			delete(m.slots, s)
		}
	}
}

func (m *model) Load(a api.Address, key api.Word) api.Word {
	m.ask(a)
	return m.slots[slot{a, key}]
}

func (m *model) First(a api.Address, key api.Word) api.Word {
	m.ask(a)
	for _, s := range m.world.first(a).Storage {
		if s.Key == key && !m.fresh[a] {
			return s.Value
		}
	}
	return api.Word{}
}

func (m *model) Set(a api.Address, key, value api.Word) {
	m.ask(a)
	delete(m.slots, slot{a, key})
	if number(value).Sign() != 0 {
		m.slots[slot{a, key}] = value
	}
}

func (m *model) Touch(a api.Address) bool {
	m.ask(a)
	cold := !m.warm[a]
	m.warm[a] = true
	return cold
}

func (m *model) TouchSlot(a api.Address, key api.Word) bool {
	m.ask(a)
	cold := !m.warmSlots[slot{a, key}]
	m.warmSlots[slot{a, key}] = true
	return cold
}

func (m *model) Add(refund int64) {
	m.refund = new(big.Int).Add(m.refund, big.NewInt(refund))
}

func (m *model) Refund() int64 { return wrapped(m.refund) }

func (m *model) Log(l api.Log) { m.logs = append(m.logs, wholeLog(l)) }

func (m *model) Logs() []api.Log { return m.logs }

func (m *model) Destroy(a api.Address) {
	m.ask(a)
	m.destroyed[a] = true
}

func (m *model) Destroyed(a api.Address) bool {
	m.ask(a)
	return m.destroyed[a]
}

// Mark and note are apart: which numbers marks have is the state's.
func (m *model) Mark() int { return 0 }

// note notes all facts under a mark of the state, and tells whether that one
// didn't stand for others.
func (m *model) note(mark int) bool {
	f, ok := m.marks[mark]
	if !ok {
		m.marks[mark] = m.facts.copied()
	}
	return !ok || f.text() == m.facts.text()
}

// Back knows the marks that were noted; others are none.
func (m *model) Back(mark int) {
	f, ok := m.marks[mark]
	if !ok {
		return
	}
	m.facts = f.copied()
	maps.DeleteFunc(m.marks, func(later int, _ facts) bool { return later > mark })
}

// now is an account as it is when all is over.
func (m *model) now(a api.Address) api.Account {
	if m.destroyed[a] {
		return api.Account{Address: a}
	}
	x := m.accounts[a]
	for s, value := range m.slots {
		if s.a == a {
			x.Storage = append(x.Storage, api.Slot{Key: s.key, Value: value})
		}
	}
	slices.SortFunc(x.Storage, func(s, t api.Slot) int { return number(s.Key).Cmp(number(t.Key)) })
	return x
}

func (m *model) Changes() []api.Account {
	var l []api.Account
	for _, a := range pool() {
		if x := m.now(a); !same(x, m.world.first(a)) {
			l = append(l, x)
		}
	}
	slices.SortFunc(l, func(x, y api.Account) int { return bytes.Compare(x.Address[:], y.Address[:]) })
	return l
}

// asked is all that is asked of each address and slot, as one text. It begins
// with what is missing, which asking notes.
func asked(s calls) string {
	var b strings.Builder
	a, misses := s.Missing()
	fmt.Fprintln(&b, "missing", a, misses, "refund", s.Refund(), "logs", s.Logs())
	fmt.Fprintln(&b, "changes", s.Changes())
	for _, a := range pool() {
		fmt.Fprintln(&b, a, s.Empty(a), s.Nonce(a), s.Balance(a), s.Code(a), s.Destroyed(a))
		for _, key := range keys() {
			fmt.Fprintln(&b, " ", key, s.Load(a, key), s.First(a, key))
		}
	}
	fmt.Fprintln(&b, "changes", s.Changes())
	a, misses = s.Missing()
	fmt.Fprintln(&b, "missing", a, misses)
	return b.String()
}

// touched is what is cold of all addresses and slots, as one text; behind it
// they are warm.
func touched(s calls) string {
	var b strings.Builder
	for _, a := range pool() {
		fmt.Fprint(&b, a)
		for _, key := range keys() {
			fmt.Fprint(&b, " ", s.TouchSlot(a, key))
		}
		fmt.Fprintln(&b, s.Touch(a))
	}
	return b.String()
}

// step is a call; it answers what the call answers, as a text.
type step struct {
	name string
	call func(s calls) string
}

// play makes a state on a world, plays a row on it, and answers it.
func play(w state.World, row []step) *state.State {
	s := state.New(w)
	for _, x := range row {
		x.call(s)
	}
	return s
}

// told is all that is told of a state behind a row, that is played anew for it.
func told(w state.World, row []step) string { return asked(play(w, row)) + touched(play(w, row)) }

// names are those of a row's steps.
func names(row []step) string {
	var l []string
	for _, x := range row {
		l = append(l, x.name)
	}
	return strings.Join(l, "\n")
}

// check tells whether all that is told behind a row is the model's.
func check(t *testing.T, w world, row []step, m *model) {
	t.Helper()
	want := asked(m.copied()) + touched(m.copied())
	if got := told(w, row); got != want {
		t.Fatalf("behind\n%s\nis told\n%s\nwant\n%s", names(row), got, want)
	}
}

// none is the answer of a call without one.
func none(call func(s calls)) func(s calls) string {
	return func(s calls) string {
		call(s)
		return ""
	}
}

// drawnWord is a small number, in one of a word's parts, or 0.
func drawnWord(r *rand.Rand) api.Word {
	var w api.Word
	w[r.IntN(4)] = r.Uint64N(3)
	return w
}

func drawnBytes(r *rand.Rand) []byte {
	var b []byte
	for range r.IntN(3) {
		b = append(b, byte(r.IntN(2)))
	}
	return b
}

func drawnLog(r *rand.Rand) api.Log {
	l := api.Log{Address: pool()[r.IntN(len(pool()))], Data: drawnBytes(r)}
	for range r.IntN(3) {
		l.Topics = append(l.Topics, drawnWord(r))
	}
	return l
}

// drawnAccount has some of what an account may have.
func drawnAccount(r *rand.Rand, a api.Address) api.Account {
	x := api.Account{Address: a, Nonce: r.Uint64N(3), Balance: drawnWord(r), Code: drawnBytes(r)}
	if r.IntN(4) == 0 {
		x = api.Account{Address: a}
	}
	for _, key := range keys() {
		if v := drawnWord(r); v != (api.Word{}) && r.IntN(2) == 0 {
			x.Storage = append(x.Storage, api.Slot{Key: key, Value: v})
		}
	}
	slices.SortFunc(x.Storage, func(s, t api.Slot) int { return number(s.Key).Cmp(number(t.Key)) })
	return x
}

// drawnWorld knows most accounts, or all.
func drawnWorld(r *rand.Rand) world {
	w := world{}
	all := r.IntN(2) == 0
	for _, a := range pool() {
		w[a] = answered{drawnAccount(r, a), all || r.IntN(3) > 0}
	}
	return w
}

// drawn is a step of each kind but Mark and Back.
func drawn(r *rand.Rand) step {
	a, key, v, n := pool()[r.IntN(len(pool()))], keys()[r.IntN(len(keys()))], drawnWord(r), r.Uint64N(3)
	code, log, refund := drawnBytes(r), drawnLog(r), int64(r.Uint64())
	rows := []step{
		{fmt.Sprint("SetNonce ", a, n), none(func(s calls) { s.SetNonce(a, n) })},
		{fmt.Sprint("SetBalance ", a, v), none(func(s calls) { s.SetBalance(a, v) })},
		{fmt.Sprint("SetCode ", a, code), none(func(s calls) { s.SetCode(a, code) })},
		{fmt.Sprint("Set ", a, key, v), none(func(s calls) { s.Set(a, key, v) })},
		{fmt.Sprint("Set again ", a, key, v), none(func(s calls) { s.Set(a, key, v) })},
		{fmt.Sprint("Set to 0 ", a, key), none(func(s calls) { s.Set(a, key, api.Word{}) })},
		{fmt.Sprint("Make ", a), none(func(s calls) { s.Make(a) })},
		{fmt.Sprint("Destroy ", a), none(func(s calls) { s.Destroy(a) })},
		{fmt.Sprint("Add ", refund), none(func(s calls) { s.Add(refund) })},
		{fmt.Sprint("Log ", log), none(func(s calls) { s.Log(log) })},
		{fmt.Sprint("Touch ", a), func(s calls) string { return fmt.Sprint(s.Touch(a)) }},
		{fmt.Sprint("TouchSlot ", a, key), func(s calls) string { return fmt.Sprint(s.TouchSlot(a, key)) }},
		{fmt.Sprint("Nonce ", a), func(s calls) string { return fmt.Sprint(s.Nonce(a)) }},
		{fmt.Sprint("Balance ", a), func(s calls) string { return fmt.Sprint(s.Balance(a)) }},
		{fmt.Sprint("Code ", a), func(s calls) string { return fmt.Sprint(s.Code(a)) }},
		{fmt.Sprint("Empty ", a), func(s calls) string { return fmt.Sprint(s.Empty(a)) }},
		{fmt.Sprint("Load ", a, key), func(s calls) string { return fmt.Sprint(s.Load(a, key)) }},
		{fmt.Sprint("First ", a, key), func(s calls) string { return fmt.Sprint(s.First(a, key)) }},
		{fmt.Sprint("Destroyed ", a), func(s calls) string { return fmt.Sprint(s.Destroyed(a)) }},
		{"Refund", func(s calls) string { return fmt.Sprint(s.Refund()) }},
		{"Logs", func(s calls) string { return fmt.Sprint(s.Logs()) }},
		{"Changes", func(s calls) string { return fmt.Sprint(s.Changes()) }},
		{"Missing", func(s calls) string { return fmt.Sprint(s.Missing()) }},
	}
	return rows[r.IntN(len(rows))]
}

// back is a step to a mark.
func back(mark int) step {
	return step{fmt.Sprint("Back ", mark), none(func(s calls) { s.Back(mark) })}
}

// drawnBack is a step to a mark that was noted, or to none.
func drawnBack(r *rand.Rand, s calls, m *model) step {
	marks := slices.Sorted(maps.Keys(m.marks))
	if r.IntN(3) == 0 {
		marks = []int{-1, s.Mark() + 1, s.Mark() + 2, math.MinInt, math.MaxInt, 0, s.Mark()}
	}
	return back(marks[r.IntN(len(marks))])
}
