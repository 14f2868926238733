package rules

import (
	"iter"

	"amalgam/abstract"
	"amalgam/agenda"
	"amalgam/api"
	"amalgam/bag"
	"amalgam/canon"
	"amalgam/derive"
	"amalgam/instance"
	"amalgam/linsolve"
	"amalgam/match"
	"amalgam/minimise"
	"amalgam/pick"
	"amalgam/proof"
	"amalgam/rejoin"
	"amalgam/session"
	"amalgam/sig"
	"amalgam/solve"
	"amalgam/split"
	"amalgam/state"
	"amalgam/step"
	"amalgam/subst"
	"amalgam/terms"
	"amalgam/text"
	"amalgam/unify"
	"amalgam/units"
	"amalgam/words"
)

// The calls that the chapters list, with their exact signatures: this file is built just if they are all there.
type (
	sg = api.Signature
	tm = api.Term
	er = api.Errno
	bd = []api.Bind
	eq = api.Equation
	st = api.State
	un = []api.Unknown
)

var (
	_ func(string) bool            = sig.Name
	_ func(string) bool            = sig.Var
	_ func(sg) (er, int)           = sig.Check
	_ func(sg, string) (int, bool) = sig.Find
	_ func(sg, int) (int, bool)    = sig.Unit
	_ func(sg) []int               = sig.Units
	_ func(sg) sg                  = sig.Plain

	_ func(string, int) (api.Word, int, er) = words.Next
	_ func(string) ([]api.Word, er, int)    = words.List
	_ func(string) iter.Seq[api.Word]       = words.All

	_ func(sg, tm) er               = terms.Check
	_ func(tm) int                  = terms.Size
	_ func(tm) tm                   = terms.Clone
	_ func(tm, tm) bool             = terms.Same
	_ func(tm, tm) int              = terms.Compare
	_ func(tm) []string             = terms.Vars
	_ func(tm, string) bool         = terms.Has
	_ func(tm, []int) (tm, er)      = terms.At
	_ func(tm, []int, tm) (tm, er)  = terms.Put
	_ func(tm) iter.Seq2[[]int, tm] = terms.All

	_ func(sg, tm) tm                = canon.Canon
	_ func(sg, tm) bool              = canon.Is
	_ func(sg, tm, tm) bool          = canon.Equal
	_ func(sg, int, tm) []tm         = canon.Parts
	_ func(sg, int, []tm) (tm, bool) = canon.Join

	_ func(sg, string) (tm, er, int) = text.Term
	_ func(sg, string) (eq, er, int) = text.Equation
	_ func(sg, string) (bd, er, int) = text.Binds
	_ func(sg, tm) string            = text.Show
	_ func(sg, eq) string            = text.ShowEquation
	_ func(sg, bd) string            = text.ShowBinds

	_ func(func(int, int) int) *bag.Bag[int]         = bag.New[int]
	_ func(func(int, int) int, ...int) *bag.Bag[int] = bag.Of[int]
	_ func(*bag.Bag[int], int, int) bool             = (*bag.Bag[int]).Add
	_ func(*bag.Bag[int], int) int                   = (*bag.Bag[int]).Count
	_ func(*bag.Bag[int]) int                        = (*bag.Bag[int]).Len
	_ func(*bag.Bag[int]) []bag.Item[int]            = (*bag.Bag[int]).Items
	_ func(*bag.Bag[int]) []int                      = (*bag.Bag[int]).List
	_ func(b, c *bag.Bag[int]) *bag.Bag[int]         = (*bag.Bag[int]).Join
	_ func(b, c *bag.Bag[int]) *bag.Bag[int]         = (*bag.Bag[int]).Less
	_ func(b, c *bag.Bag[int]) *bag.Bag[int]         = (*bag.Bag[int]).Common
	_ func(b, c *bag.Bag[int]) bool                  = (*bag.Bag[int]).Within
	_ func(*bag.Bag[int]) iter.Seq[*bag.Bag[int]]    = (*bag.Bag[int]).Parts
	_                                                = bag.Item[int]{X: 1, N: 1}

	_ func(sg, bd) (er, int)                = subst.Check
	_ func(sg, bd, tm) (tm, er)             = subst.Apply
	_ func(sg, bd, bd) (bd, er)             = subst.Compose
	_ func(bd, []string) bd                 = subst.Restrict
	_ func(sg, bd, []string, int) (bd, int) = subst.Rename
	_ func(bd, bd) bool                     = subst.Same

	_ func(sg, tm, api.Step) (tm, er)        = derive.Do
	_ func(sg, tm, api.Step) (api.Step, er)  = derive.Back
	_ func(sg, tm, []api.Step) (tm, er, int) = derive.Play
	_ func(sg, tm) []api.Step                = derive.Down
	_ func(sg, tm, tm) ([]api.Step, bool)    = derive.Way

	_ func([]int, []int) er              = linsolve.Check
	_ func([]int, []int, []int) bool     = linsolve.Solves
	_ func([]int, []int, []int) bool     = linsolve.Minimal
	_ func([]int, []int) ([][]int, er)   = linsolve.Basis
	_ func([]int, []int) iter.Seq[[]int] = linsolve.All
	_ func([][]int, []int) ([]int, bool) = linsolve.Express

	_ func([][]int, []int) er                  = pick.Check
	_ func([][]int, []int, uint32) ([]int, er) = pick.Sum
	_ func([][]int, []int, uint32) (bool, er)  = pick.Fits
	_ func([][]int, []int) iter.Seq[uint32]    = pick.All
	_ func([][]int, []int, int) ([]uint32, er) = pick.List
	_ func([][]int, uint32) [][]int            = pick.Picked

	_ func(int) (*agenda.Agenda[string], er)              = agenda.New[string]
	_ func(*agenda.Agenda[string], string, int) (int, er) = (*agenda.Agenda[string]).Push
	_ func(*agenda.Agenda[string]) (string, int, bool)    = (*agenda.Agenda[string]).Peek
	_ func(*agenda.Agenda[string]) (string, int, bool)    = (*agenda.Agenda[string]).Pop
	_ func(*agenda.Agenda[string], int) bool              = (*agenda.Agenda[string]).Drop
	_ func(*agenda.Agenda[string], int, int) bool         = (*agenda.Agenda[string]).Weigh
	_ func(*agenda.Agenda[string]) int                    = (*agenda.Agenda[string]).Len
	_ func(*agenda.Agenda[string]) iter.Seq2[int, string] = (*agenda.Agenda[string]).All

	_ func(sg, int, tm) un            = abstract.Unknowns
	_ func(l, r un) (un, un)          = abstract.Cancel
	_ func(sg, int, eq) (api.Sum, er) = abstract.Pure
	_ func(un) []int                  = abstract.Counts
	_ func(l, r un) []int             = abstract.Wants

	_ func(sg, eq) api.Way          = step.One
	_ func(sg, []eq) (bd, bool, er) = step.Free

	_ func(int) string                                = rejoin.Name
	_ func(string) (int, bool)                        = rejoin.Number
	_ func(sg, int, un, [][]int, int) ([]eq, int, er) = rejoin.Equations

	_ func(st) st                     = state.Clone
	_ func(st, st) bool               = state.Same
	_ func(st) bool                   = state.Solved
	_ func(st) (int, bool)            = state.Next
	_ func(st, int, []eq) (st, er)    = state.Replace
	_ func(sg, st, api.Bind) (st, er) = state.Bind

	_ func(sg, []eq) (*solve.Machine, er) = solve.New
	_ func(*solve.Machine) bool           = (*solve.Machine).Step
	_ func(*solve.Machine) (st, bool)     = (*solve.Machine).Top
	_ func(*solve.Machine) (int, int)     = (*solve.Machine).Made
	_ func(*solve.Machine) ([]bd, er)     = (*solve.Machine).Answer
	_ func(sg, []eq) ([]bd, er)           = solve.Solve

	_ func(sg, tm, tm) []int                = units.Of
	_ func([]int, []string, int) int        = units.Many
	_ func([]int, []string, int) (bd, bool) = units.Way
	_ func([]int, []string) iter.Seq[bd]    = units.All

	_ func(sg, tm, tm) ([]bd, er)     = unify.Unify
	_ func(sg, tm, tm, bd) (bool, er) = unify.Is

	_ func([]int, []int) er                      = split.Check
	_ func([]int, []int, bool) iter.Seq[[][]int] = split.All
	_ func([]int, []int, bool, int) (int, er)    = split.Count

	_ func(sg, tm, tm) ([]bd, er)         = match.All
	_ func(sg, []tm, []tm) ([]bd, er)     = match.Many
	_ func(sg, []tm, []tm) (bd, bool, er) = match.First
	_ func(sg, tm, tm, bd) (bool, er)     = match.Is

	_ func(sg, []string, bd, bd) (bd, bool, er) = instance.Is
	_ func(sg, []string, bd, bd) (bool, er)     = instance.Alike

	_ func(sg, []string, []bd) ([]bd, er)          = minimise.Minimise
	_ func(sg, []string, []bd, bd) (int, bool, er) = minimise.Covers

	_ func(sg, tm, tm, bd) (api.Proof, er)  = proof.Make
	_ func(sg, tm, tm, api.Proof) (er, int) = proof.Check
	_ func(sg, tm, tm) ([]api.Proof, er)    = proof.All

	_ func(string) (string, int, er) = session.Run
)
