package rules

import (
	"errors"
	"testing"

	"amalgam/api"
)

// The numbers of the document's sections Limits and Errors and of the chapters, said again: other programs are built on them.
func TestErrors(t *testing.T) {
	for want, e := range map[int]api.Errno{
		0: api.OK, 1: api.ErrArg, 2: api.ErrTooMany,
		11: api.ErrSigName, 12: api.ErrSigKind, 13: api.ErrSigArity, 14: api.ErrSigUnit, 15: api.ErrSigMany,
		21: api.ErrWordsByte, 22: api.ErrWordsLong,
		31: api.ErrTermsVar, 32: api.ErrTermsSymbol, 33: api.ErrTermsArgs, 34: api.ErrTermsLong, 35: api.ErrTermsPlace,
		51: api.ErrTextShort, 52: api.ErrTextWord, 53: api.ErrTextSymbol, 54: api.ErrTextRest, 55: api.ErrTextLong,
		71: api.ErrSubstVar, 72: api.ErrSubstTerm, 73: api.ErrSubstGrown,
		81: api.ErrDeriveStep, 91: api.ErrLinSide, 92: api.ErrLinCoeff,
		101: api.ErrPickRows, 102: api.ErrPickWant, 103: api.ErrPickRow, 111: api.ErrAgendaFull, 121: api.ErrAbstractSym,
		141: api.ErrRejoinRow, 142: api.ErrRejoinEmpty, 151: api.ErrStatePlace, 152: api.ErrStateOccurs, 161: api.ErrSolveName,
		181: api.ErrUnifyName, 191: api.ErrSplitCount, 192: api.ErrSplitMany, 201: api.ErrMatchPairs, 211: api.ErrInstanceVar,
		231: api.ErrProofBinds, 232: api.ErrProofStep, 233: api.ErrProofEnd, 241: api.ErrSessionLong, 242: api.ErrSessionLine,
	} {
		if int(e) != want {
			t.Errorf("error %d is %d", want, int(e))
		}
	}
}

func TestAnErrnoIsAnError(t *testing.T) {
	var e error = api.ErrSigUnit
	if e.Error() != "amalgam: error 14" || !errors.Is(e, api.ErrSigUnit) || errors.Is(e, api.ErrSigName) {
		t.Errorf("%v", e)
	}
	if s := api.OK.Error(); s != "amalgam: error 0" {
		t.Errorf("%q", s)
	}
}

func TestLimits(t *testing.T) {
	got := []int{api.MaxSymbols, api.MaxName, api.MaxArity, api.MaxTerm, api.MaxText, api.MaxGrown, api.MaxSide, api.MaxCoeff, api.MaxBasis, api.MaxStates, api.MaxUnifiers, api.MaxMatchers, api.MaxScript, api.MaxLines, api.MaxHandles}
	want := []int{16, 12, 4, 40, 800, 400, 5, 6, 16, 4096, 100, 200, 20000, 200, 20}
	for i := range want {
		if got[i] != want[i] {
			t.Errorf("limit %d is %d, not %d", i, got[i], want[i])
		}
	}
}

func TestKinds(t *testing.T) {
	if api.Free != 1 || api.AC != 2 || api.ACU != 3 {
		t.Errorf("kinds: %d %d %d", api.Free, api.AC, api.ACU)
	}
}
