package chacha

import (
	"go/ast"
	"go/parser"
	"go/token"
	"testing"
)

// What is done with a key or a text must not hang on its bytes. A clock is no
// judge of that; but code without a branch, and without a look-up by a word,
// cannot do otherwise.
func TestNothingHangsOnASecret(t *testing.T) {
	set := token.NewFileSet()
	file, err := parser.ParseFile(set, "chacha.go", nil, 0)
	if err != nil {
		t.Fatal(err)
	}
	ast.Inspect(file, func(n ast.Node) bool {
		if n != nil && mayHangOnASecret(n) {
			t.Errorf("%v: what is done here may hang on a secret", set.Position(n.Pos()))
		}
		return true
	})
}

func mayHangOnASecret(n ast.Node) bool {
	switch n := n.(type) {
	case *ast.IfStmt, *ast.SwitchStmt, *ast.TypeSwitchStmt, *ast.SelectStmt, *ast.BranchStmt:
		return true
	case *ast.ForStmt:
		return n.Init != nil || n.Post != nil || !isOfLengths(n.Cond)
	case *ast.RangeStmt:
		// Over all of a list, or so many times as a constant says.
		_, ok := n.X.(*ast.Ident)
		return !ok
	case *ast.IndexExpr:
		return !isPlace(n.Index)
	case *ast.BinaryExpr:
		return n.Op == token.LAND || n.Op == token.LOR || n.Op == token.QUO || n.Op == token.REM
	}
	return false
}

// isOfLengths tells whether e compares two lengths.
func isOfLengths(e ast.Expr) bool {
	b, ok := e.(*ast.BinaryExpr)
	return ok && isLength(b.X) && isLength(b.Y)
}

func isLength(e ast.Expr) bool {
	c, ok := e.(*ast.CallExpr)
	if !ok {
		return false
	}
	f, ok := c.Fun.(*ast.Ident)
	return ok && f.Name == "len"
}

// isPlace tells whether an index is a constant, or a place that a range goes
// through.
func isPlace(e ast.Expr) bool {
	switch e := e.(type) {
	case *ast.BasicLit:
		return true
	case *ast.Ident:
		return e.Name == "i"
	}
	return false
}
