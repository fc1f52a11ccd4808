package state_test

import (
	"math/rand/v2"
	"testing"

	"smithy/state"
)

// playRow plays a drawn row on a state and on the model of it, and holds them
// against each other behind each step. Of a hundred steps some go back.
func playRow(t *testing.T, r *rand.Rand, w world, steps, backs int) {
	t.Helper()
	s, m := state.New(w), newModel(w)
	var row []step
	check(t, w, row, m)
	for range steps {
		if !m.note(s.Mark()) {
			t.Fatalf("behind\n%s\nMark is %d, as it was behind something else", names(row), s.Mark())
		}
		x := drawn(r)
		if r.IntN(100) < backs {
			x = drawnBack(r, s, m)
		}
		row = append(row, x)
		if got, want := x.call(s), x.call(m); got != want {
			t.Fatalf("at the end of\n%s\nis answered %s, want %s", names(row), got, want)
		}
		check(t, w, row, m)
	}
}

func TestP141Rows(t *testing.T) {
	for i := range 150 {
		r := rand.New(rand.NewPCG(14, uint64(i)))
		playRow(t, r, drawnWorld(r), 60, 0)
	}
}

func TestP142Rows(t *testing.T) {
	for i := range 200 {
		r := rand.New(rand.NewPCG(15, uint64(i)))
		playRow(t, r, drawnWorld(r), 60, 5+i%30)
	}
}

// Each mark of a row is gone back to, from its end and from mark to mark, and
// the rest of the row is played once more behind it.
func TestP142EachMark(t *testing.T) {
	for i := range 60 {
		r := rand.New(rand.NewPCG(16, uint64(i)))
		w := drawnWorld(r)
		s := state.New(w)
		asked(s) // so that nothing is noted later on
		var row []step
		marks, texts := []int{s.Mark()}, []string{asked(s)}
		for range 40 {
			x := drawn(r)
			x.call(s)
			row = append(row, x)
			marks, texts = append(marks, s.Mark()), append(texts, asked(s))
		}
		end := asked(s) + "\n" + touched(play(w, row))
		for range 10 {
			at := len(row)
			for at > 0 {
				at = r.IntN(at)
				s.Back(marks[at])
				if got := asked(s); got != texts[at] || s.Mark() != marks[at] {
					t.Fatalf("back to %d, behind %d steps of\n%s\nis told\n%s\nwant\n%s", marks[at], at, names(row), got, texts[at])
				}
			}
			for _, x := range row {
				x.call(s)
			}
			again := s.Mark()
			got := asked(s) + "\n" + touched(s)
			s.Back(again)
			if got != end || s.Mark() != marks[len(row)] {
				t.Fatalf("once more\n%s\nis told\n%s\nwant\n%s", names(row), got, end)
			}
		}
	}
}

// A world that hands out its own memory is as it was, whatever is done, and so
// is what it answers.
func TestP143WorldStays(t *testing.T) {
	for i := range 150 {
		r := rand.New(rand.NewPCG(17, uint64(i)))
		w := roomy(drawnWorld(r))
		before := w.copied()
		s := state.New(w)
		m := newModel(w)
		for range 80 {
			m.note(s.Mark())
			x := drawn(r)
			if r.IntN(10) == 0 {
				x = drawnBack(r, s, m)
			}
			x.call(s)
			x.call(m)
			if !sameWorlds(w, before) {
				t.Fatalf("%s has changed the world", x.name)
			}
		}
		wearAll(s)
		if !sameWorlds(w, before) {
			t.Fatal("what was answered and changed has changed the world")
		}
	}
}
