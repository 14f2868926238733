package proof

import (
	"errors"
	"go/ast"
	"go/parser"
	"go/token"
	"testing"

	"amalgam/api"
)

func swapped() (api.Signature, api.Term, api.Term) {
	s := api.Signature{{Name: "a", Kind: api.Free}, {Name: "plus", Kind: api.AC, Arity: 2}}
	x, a := api.Term{Var: "X"}, api.Term{}
	return s, api.Term{Sym: 1, Args: []api.Term{x, a}}, api.Term{Sym: 1, Args: []api.Term{a, x}}
}

// Ways: a proof says by an error of a type of its own where it is wrong.
func TestFault(t *testing.T) {
	s, l, r := swapped()
	step := api.Step{Kind: api.Swap}
	for _, x := range []struct {
		p    api.Proof
		want fault
	}{
		{api.Proof{}, fault{api.ErrProofEnd, 0}},
		{api.Proof{Steps: []api.Step{step, step}}, fault{api.ErrProofEnd, 2}},
		{api.Proof{Steps: []api.Step{step, {}}}, fault{api.ErrProofStep, 1}},
		{api.Proof{Binds: []api.Bind{{Var: "X"}, {Var: "x"}}}, fault{api.ErrProofBinds, 1}},
	} {
		err := look(s, l, r, x.p)
		var f fault
		if !errors.As(err, &f) || f != x.want {
			t.Errorf("%v; want %v", err, x.want)
		}
		if e, at := Check(s, l, r, x.p); e != x.want.what || at != x.want.at {
			t.Errorf("Check: %d at %d; want %v", e, at, x.want)
		}
	}
	if err := look(s, l, r, api.Proof{Steps: []api.Step{step}}); err != nil {
		t.Errorf("%v", err)
	}
	var f fault
	if err := look(nil, l, r, api.Proof{}); !errors.As(err, &f) || f != (fault{api.ErrTermsSymbol, 0}) {
		t.Errorf("%v", err)
	}
	if text := (fault{api.ErrProofStep, 12}).Error(); text != "amalgam: error 232 at 12" {
		t.Errorf("%q", text)
	}
}

// Ways: the face asks for it by errors.As.
func TestTheFaceAsksByErrorsAs(t *testing.T) {
	tree, err := parser.ParseFile(token.NewFileSet(), "proof.go", nil, 0)
	if err != nil {
		t.Fatal(err)
	}
	asks := false
	for _, d := range tree.Decls {
		if x, ok := d.(*ast.FuncDecl); ok && x.Name.Name == "Check" {
			ast.Inspect(x, func(n ast.Node) bool {
				if y, ok := n.(*ast.SelectorExpr); ok && y.Sel.Name == "As" {
					p, ok := y.X.(*ast.Ident)
					asks = asks || ok && p.Name == "errors"
				}
				return true
			})
		}
	}
	if !asks {
		t.Error("it does not")
	}
}
