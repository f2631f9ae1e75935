package tight

import (
	gotoken "go/token"
	"strings"
	"testing"
)

// TestOf holds signs against Go's own table, of which the fragment's signs are a part.
func TestOf(t *testing.T) {
	const signs = " + - * / % == != < <= > >= && || "
	for sign := gotoken.ILLEGAL; sign <= gotoken.TILDE; sign++ {
		s := sign.String()
		want := sign.Precedence()
		if !strings.Contains(signs, " "+s+" ") {
			want = 0
		}
		if Of(s) != want {
			t.Errorf("P7.1: Of(%q) = %d, want %d", s, Of(s), want)
		}
	}
	for _, s := range []string{"", " ", "=", "!", "+ ", "&", "|", "||| ", "\n"} {
		if Of(s) != 0 {
			t.Errorf("P7.1: Of(%q) = %d", s, Of(s))
		}
	}
}
