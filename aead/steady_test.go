package aead

import (
	"go/ast"
	"go/parser"
	"go/token"
	"testing"
)

// What is done with a key or a text must not hang on its bytes, but for one
// question: whether a tag is right. A clock is no judge of that; but code that
// branches nowhere else cannot do otherwise.
func TestNothingHangsOnASecret(t *testing.T) {
	set := token.NewFileSet()
	file, err := parser.ParseFile(set, "aead.go", nil, 0)
	if err != nil {
		t.Fatal(err)
	}
	asked := 0
	ast.Inspect(file, func(n ast.Node) bool {
		switch n := n.(type) {
		case *ast.IfStmt:
			if isSame(n.Cond) {
				asked++
			} else if !isOfLength(n.Cond) {
				t.Errorf("%v: this branch may hang on a secret", set.Position(n.Pos()))
			}
		case *ast.SwitchStmt, *ast.TypeSwitchStmt, *ast.SelectStmt, *ast.BranchStmt, *ast.ForStmt, *ast.RangeStmt, *ast.IndexExpr:
			t.Errorf("%v: what is done here may hang on a secret", set.Position(n.Pos()))
		}
		return true
	})
	if asked != 1 {
		t.Errorf("tags are held against each other by octet.Same %d times, not once", asked)
	}
}

// isSame tells whether e is a tag that is held against another by octet.Same,
// found to be unlike.
func isSame(e ast.Expr) bool {
	not, ok := e.(*ast.UnaryExpr)
	if !ok || not.Op != token.NOT {
		return false
	}
	call, ok := not.X.(*ast.CallExpr)
	if !ok {
		return false
	}
	f, ok := call.Fun.(*ast.SelectorExpr)
	return ok && isName(f.X, "octet") && f.Sel.Name == "Same"
}

// isOfLength tells whether e compares the length of a list.
func isOfLength(e ast.Expr) bool {
	b, ok := e.(*ast.BinaryExpr)
	if !ok || !isName(b.Y, "Overhead") {
		return false
	}
	call, ok := b.X.(*ast.CallExpr)
	return ok && isName(call.Fun, "len")
}

func isName(e ast.Expr, name string) bool {
	id, ok := e.(*ast.Ident)
	return ok && id.Name == name
}
