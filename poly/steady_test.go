package poly

import (
	"go/ast"
	"go/parser"
	"go/token"
	"slices"
	"testing"
)

// What is done with a key or a text must not hang on its bytes. A clock is no
// judge of that; but code without a branch, and without a look-up by a number,
// cannot do otherwise.
func TestNothingHangsOnASecret(t *testing.T) {
	set := token.NewFileSet()
	file, err := parser.ParseFile(set, "poly.go", nil, 0)
	if err != nil {
		t.Fatal(err)
	}
	ast.Inspect(file, func(n ast.Node) bool {
		if n != nil && mayHangOnASecret(n) {
			t.Errorf("%v: what is done here may hang on a secret", set.Position(n.Pos()))
		}
		return true
	})
}

func mayHangOnASecret(n ast.Node) bool {
	switch n := n.(type) {
	case *ast.IfStmt, *ast.SwitchStmt, *ast.TypeSwitchStmt, *ast.SelectStmt, *ast.BranchStmt:
		return true
	case *ast.ForStmt:
		return n.Init != nil || n.Post != nil || !isOfLength(n.Cond)
	case *ast.RangeStmt:
		// Over all limbs of a number.
		return !isName(n.X, "a")
	case *ast.IndexExpr:
		return !isPlace(n.Index)
	case *ast.SliceExpr:
		return n.Low != nil && !isPlace(n.Low)
	case *ast.CallExpr:
		return isName(n.Fun, "min") && !slices.ContainsFunc(n.Args, isLength)
	case *ast.BinaryExpr:
		return n.Op == token.LAND || n.Op == token.LOR || n.Op == token.QUO || n.Op == token.REM
	}
	return false
}

// isOfLength tells whether e compares a length with a constant.
func isOfLength(e ast.Expr) bool {
	b, ok := e.(*ast.BinaryExpr)
	if !ok || !isLength(b.X) {
		return false
	}
	_, ok = b.Y.(*ast.BasicLit)
	return ok
}

// isLength tells whether e is the length of a list.
func isLength(e ast.Expr) bool {
	c, ok := e.(*ast.CallExpr)
	return ok && isName(c.Fun, "len")
}

// isPlace tells whether an index is a constant, a length, or a place that a
// range goes through.
func isPlace(e ast.Expr) bool {
	_, constant := e.(*ast.BasicLit)
	return constant || isLength(e) || isName(e, "i")
}

func isName(e ast.Expr, name string) bool {
	id, ok := e.(*ast.Ident)
	return ok && id.Name == name
}
