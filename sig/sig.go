// Package sig is layer 1: see shared/doc/01-sig.md.
package sig

import (
	"slices"

	"amalgam/api"
)

// Name: may a symbol have this name?
func Name(s string) bool {
	if !fits(s) {
		return false
	}
	for i, r := range s {
		if !small(r) && (i == 0 || !digit(r)) {
			return false
		}
	}
	return true
}

// Var: may a variable have this name?
func Var(s string) bool {
	return fits(s) && (written(s) || numbered(s))
}

// fits comes ahead of every walk through a name, so that a long text costs no more than a short one.
func fits(s string) bool { return 1 <= len(s) && len(s) <= api.MaxName }

// written: is it a variable's name of the kind that terms are written with?
func written(s string) bool {
	for i, r := range s {
		if !great(r) && (i == 0 || !small(r) && !digit(r)) {
			return false
		}
	}
	return true
}

// numbered: is it a variable's name of the kind that fresh variables have?
func numbered(s string) bool {
	if len(s) < 2 || s[0] != '_' || s[1] == '0' {
		return false
	}
	for _, r := range s[1:] {
		if !digit(r) {
			return false
		}
	}
	return true
}

// These take runes whole: a rune cut down to a byte could pass for a letter that it is not.
func small(r rune) bool { return 'a' <= r && r <= 'z' }
func great(r rune) bool { return 'A' <= r && r <= 'Z' }
func digit(r rune) bool { return '0' <= r && r <= '9' }

// Check: may a signature be? The first symbol that may not.
func Check(s api.Signature) (api.Errno, int) {
	if len(s) > api.MaxSymbols {
		return api.ErrSigMany, 0
	}
	for i, x := range s {
		if e := checkSymbol(s[:i], x); e != api.OK {
			return e, i
		}
	}
	return api.OK, 0
}

// checkSymbol says what is wrong with a symbol behind others that are right.
func checkSymbol(ahead api.Signature, x api.Symbol) api.Errno {
	if _, twice := Find(ahead, x.Name); twice || !Name(x.Name) {
		return api.ErrSigName
	}
	if x.Kind != api.Free && x.Kind != api.AC && x.Kind != api.ACU {
		return api.ErrSigKind
	}
	if !rightArity(x) {
		return api.ErrSigArity
	}
	if !rightUnit(ahead, x) {
		return api.ErrSigUnit
	}
	return api.OK
}

func rightArity(x api.Symbol) bool {
	if x.Kind == api.Free {
		return 0 <= x.Arity && x.Arity <= api.MaxArity
	}
	return x.Arity == 2
}

func rightUnit(ahead api.Signature, x api.Symbol) bool {
	if x.Kind != api.ACU {
		return x.Unit == ""
	}
	// A free symbol that is right has no unit, so there is just one symbol that this unit can be.
	unit := api.Symbol{Name: x.Unit, Kind: api.Free}
	for _, y := range ahead {
		if y == unit {
			return true
		}
	}
	return false
}

// Find is the place of a name.
func Find(s api.Signature, name string) (int, bool) {
	for i, x := range s {
		if x.Name == name {
			return i, true
		}
	}
	return 0, false
}

// Unit is the place of a symbol's unit.
func Unit(s api.Signature, sym int) (int, bool) {
	if sym < 0 || sym >= len(s) || s[sym].Kind != api.ACU {
		return 0, false
	}
	return Find(s, s[sym].Unit)
}

// Units are the places of all units.
func Units(s api.Signature) []int {
	places := firstPlaces(s)
	var l []int
	for _, x := range s {
		if x.Kind != api.ACU {
			continue
		}
		if at, ok := places[x.Unit]; ok {
			l = append(l, at)
		}
	}
	slices.Sort(l)
	return slices.Compact(l)
}

// firstPlaces tells of each name what Find tells: a signature that is not right may be too long to be searched through for every symbol.
func firstPlaces(s api.Signature) map[string]int {
	places := make(map[string]int, len(s))
	for i, x := range s {
		if _, ok := places[x.Name]; !ok {
			places[x.Name] = i
		}
	}
	return places
}

// Plain is the signature without units.
func Plain(s api.Signature) api.Signature {
	plain := make(api.Signature, len(s))
	for i, x := range s {
		if x.Kind == api.ACU {
			x.Kind, x.Unit = api.AC, ""
		}
		plain[i] = x
	}
	return plain
}
