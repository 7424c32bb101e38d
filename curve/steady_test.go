package curve

import (
	"go/ast"
	"go/parser"
	"go/token"
	"slices"
	"testing"
)

// The ladder has one shape for all scalars (chapter 3, 'Ways'). A clock is no
// judge of that; but code without a branch, and without a look-up by a secret,
// cannot do otherwise.
func TestOneShapeForAllScalars(t *testing.T) {
	set := token.NewFileSet()
	file, err := parser.ParseFile(set, "curve.go", nil, 0)
	if err != nil {
		t.Fatal(err)
	}
	for _, d := range file.Decls {
		f, ok := d.(*ast.FuncDecl)
		if !ok {
			continue
		}
		ast.Inspect(f, func(n ast.Node) bool {
			if n != nil && mayHangOnASecret(f.Name.Name, n) {
				t.Errorf("%v: what is done here may hang on a secret", set.Position(n.Pos()))
			}
			return true
		})
	}
}

func mayHangOnASecret(function string, n ast.Node) bool {
	switch n := n.(type) {
	case *ast.IfStmt:
		// Whether all is 0 is what Shared tells; the ladder lies behind it.
		return function != "Shared"
	case *ast.SwitchStmt, *ast.TypeSwitchStmt, *ast.SelectStmt, *ast.ForStmt, *ast.BranchStmt:
		return true
	case *ast.RangeStmt:
		return !isName(n.X, "ladderBits")
	case *ast.IndexExpr:
		return !isPlace(function, n.Index)
	case *ast.CallExpr:
		// The place of a bit is that of the ladder's step, whatever the scalar.
		return isName(n.Fun, "bit") && !isNamesOnly(n.Args[1], "ladderBits", "i")
	case *ast.BinaryExpr:
		return slices.Contains([]token.Token{token.LAND, token.LOR, token.EQL, token.NEQ,
			token.LSS, token.LEQ, token.GTR, token.GEQ, token.QUO, token.REM}, n.Op)
	}
	return false
}

func isName(e ast.Expr, name string) bool {
	id, ok := e.(*ast.Ident)
	return ok && id.Name == name
}

// isPlace tells whether an index is a constant, or made of bit's place.
func isPlace(function string, e ast.Expr) bool {
	if function == "bit" {
		return isNamesOnly(e, "t")
	}
	return isNamesOnly(e)
}

// isNamesOnly tells whether all names in e are among those.
func isNamesOnly(e ast.Expr, names ...string) bool {
	only := true
	ast.Inspect(e, func(n ast.Node) bool {
		if id, ok := n.(*ast.Ident); ok && !slices.Contains(names, id.Name) {
			only = false
		}
		return true
	})
	return only
}
