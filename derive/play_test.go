package derive_test

import (
	"math"
	"slices"
	"testing"

	"amalgam/api"
	"amalgam/derive"
)

func wantPlay(t *testing.T, s api.Signature, x api.Term, l []api.Step, want api.Term) {
	t.Helper()
	if y, e, at := derive.Play(s, x, l); e != api.OK || at != 0 || written(y) != written(want) {
		t.Errorf("Play of %s, %s: %s, %d, %d; want %s", written(x), writtenSteps(l), written(y), e, at, written(want))
	}
}

func wantPlayNone(t *testing.T, s api.Signature, x api.Term, l []api.Step, want int) {
	t.Helper()
	if y, e, at := derive.Play(s, x, l); e != api.ErrDeriveStep || at != want || !isZero(y) {
		t.Errorf("Play of %s, %s: %s, %d, %d; want none, %d", written(x), writtenSteps(l), written(y), e, at, want)
	}
}

func TestPlayOfNoSteps(t *testing.T) {
	for _, s := range signatures() {
		for _, x := range append(manyTerms(s, 100), v("X")) {
			wantPlay(t, s, x, nil, x)
			wantPlay(t, s, x, []api.Step{}, x)
		}
	}
}

func TestPlay(t *testing.T) {
	s := exampleSignature()
	x := tm(t, "plus(a,plus(X,times(one,a)))")
	l := []api.Step{drop(0, 1, 1), flat(1), swap(0), group(1, 2), grow(times, 1, 1, 0)}
	for i, want := range []string{"plus(a,plus(X,times(one,a)))", "plus(a,plus(X,a))", "plus(a,X,a)", "plus(X,a,a)", "plus(X,plus(a,a))", "plus(times(X,one),plus(a,a))"} {
		wantPlay(t, s, x, l[:i], tm(t, want))
	}
}

func TestPlayTellsTheFirstThatCannotBeDone(t *testing.T) {
	s := exampleSignature()
	x := tm(t, "plus(a,plus(X,a))")
	right := []api.Step{flat(1), swap(0), group(1, 2), swap(0)}
	wantPlay(t, s, x, right, tm(t, "plus(plus(a,a),X)"))
	wrong := []api.Step{{}, flat(0), flat(7), group(0, math.MaxInt), swap(0, 5), drop(0), grow(plus, 1, 0), {Kind: 6}}
	for i := range right {
		for _, p := range wrong {
			wantPlayNone(t, s, x, slices.Insert(slices.Clone(right), i, p), i)
			wantPlayNone(t, s, x, slices.Insert(slices.Clone(right), i, p, p), i)
			l := append(slices.Clone(right[:i]), p)
			wantPlayNone(t, s, x, l, i)
			wantPlayNone(t, s, x, append(l, wrong...), i)
		}
	}
	wantPlayNone(t, s, v("X"), []api.Step{flat(0)}, 0)
	// Each could be done alone, but not behind the other.
	wantPlayNone(t, s, x, []api.Step{flat(1), flat(1)}, 1)
	wantPlayNone(t, s, tm(t, "times(one,X)"), []api.Step{drop(0), drop(0)}, 1)
}

// TestPlayIsDoAgainAndAgain: also where some steps can't be done.
func TestPlayIsDoAgainAndAgain(t *testing.T) {
	for i, s := range signatures() {
		m := newMaker(int64(i) + 11)
		played := 0
		for range 3000 {
			x := m.right(s, 1+m.Intn(15))
			var l []api.Step
			y, at := x, -1
			for i := range m.Intn(20) {
				p := m.likely(s, y)
				if m.Intn(20) == 0 {
					p = m.step(s, y)
				}
				l = append(l, p)
				if z, e := derive.Do(s, y, p); e == api.OK {
					y = z
				} else if at < 0 {
					at = i
				}
			}
			if at < 0 {
				played++
				wantPlay(t, s, x, l, y)
			} else {
				wantPlayNone(t, s, x, l, at)
			}
			if t.Failed() {
				return
			}
		}
		if played < 500 || played > 2500 {
			t.Errorf("signature %d: %d of 3000 rows could be played", i, played)
		}
	}
}
