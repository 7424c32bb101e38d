package octet

import (
	"runtime/debug"
	"syscall"
	"testing"
)

const pages = 3

// mapped is a list of whole pages whose reading can be forbidden.
func mapped(t *testing.T) []byte {
	b, err := syscall.Mmap(-1, 0, pages*syscall.Getpagesize(), syscall.PROT_READ|syscall.PROT_WRITE, syscall.MAP_ANON|syscall.MAP_PRIVATE)
	if err != nil {
		t.Fatal(err)
	}
	t.Cleanup(func() { _ = syscall.Munmap(b) })
	return b
}

// looks tells what Same answers, and whether it reads a forbidden place. The answer
// is handed on: were it thrown away, the compiler might leave the reading out.
func looks(a, b []byte) (same, fault bool) {
	defer debug.SetPanicOnFault(debug.SetPanicOnFault(true))
	defer func() { fault = recover() != nil }()
	same = Same(a, b)
	return same, false
}

// TestSameLooksAtAll: each page is forbidden in turn, and a byte of another one parts:
// a comparison that leaves there would not run into the forbidden page.
func TestSameLooksAtAll(t *testing.T) {
	size := syscall.Getpagesize()
	for page := range pages {
		for parts := range pages {
			if parts == page {
				continue
			}
			a, b := make([]byte, pages*size), mapped(t)
			a[parts*size] = 1
			if same, fault := looks(a, b); same || fault {
				t.Fatalf("1.1: Same, with nothing forbidden: %v %v", same, fault)
			}
			if err := syscall.Mprotect(b[page*size:(page+1)*size], syscall.PROT_NONE); err != nil {
				t.Fatal(err)
			}
			_, left := looks(a, b)
			_, right := looks(b, a)
			if !left || !right {
				t.Errorf("1.1: Same: page %d parts, page %d is not looked at", parts, page)
			}
		}
	}
}
