package batch_test

import (
	"strings"
	"testing"

	"batch/api"
	"batch/batch"
)

// closing tells where the bracket that stands at open is closed.
func closing(want string, open int) int {
	depth := 0
	for i := open; i < len(want); i++ {
		switch want[i] {
		case '(':
			depth++
		case ')':
			depth--
		}
		if depth == 0 {
			return i
		}
	}
	return -1
}

// mayGo tells by the document's words whether a pair of brackets is taken away.
func mayGo(want string, open, end int) bool {
	before := open == 0 || strings.IndexByte("|(", want[open-1]) >= 0
	behind := end == len(want)-1 || strings.IndexByte("|)", want[end+1]) >= 0
	if before && behind {
		return true
	}
	depth := 0
	for _, c := range want[open+1 : end] {
		switch c {
		case '(':
			depth++
		case ')':
			depth--
		case '|':
			if depth == 0 {
				return false
			}
		}
	}
	return true
}

// stripped takes pairs away one after the other, from the left or the right.
func stripped(want string, fromLeft bool) string {
	for {
		found := -1
		for i := range len(want) {
			if want[i] == '(' && mayGo(want, i, closing(want, i)) && (found < 0 || !fromLeft) {
				found = i
			}
		}
		if found < 0 {
			return want
		}
		end := closing(want, found)
		want = want[:found] + want[found+1:end] + want[end+1:]
	}
}

// wants adds to list every WANT of at most left more tokens behind the
// beginning so far; each REF is another, so that none can take another's place.
func wants(list []string, sofar string, refs, depth, left int, wantFactor bool) []string {
	if !wantFactor && depth == 0 {
		list = append(list, sofar)
	}
	if left == 0 {
		return list
	}
	if wantFactor {
		list = wants(list, sofar+"ok:"+string(rune('a'+refs)), refs+1, depth, left-1, false)
		if depth < api.MaxDepth {
			list = wants(list, sofar+"(", refs, depth+1, left-1, true)
		}
		return list
	}
	list = wants(list, sofar+"&", refs, depth, left-1, true)
	list = wants(list, sofar+"|", refs, depth, left-1, true)
	if depth > 0 {
		list = wants(list, sofar+")", refs, depth-1, left-1, false)
	}
	return list
}

func checkPlain(t *testing.T, want, plain string) {
	t.Helper()
	jobs, err, at := batch.Read(small + " after=" + want)
	if err != api.OK || at != 0 || len(jobs) != 1 || jobs[0].After != plain {
		t.Errorf("after=%s: %v, %d, %d, want %s", want, jobs, err, at, plain)
	}
}

func TestP4PlainForm(t *testing.T) {
	for _, c := range [][2]string{
		{"single", "single"},
		{"((((not:a[10]))))", "not:a[10]"},
		{"(ok:a|ok:b)|ok:c", "ok:a|ok:b|ok:c"},
		{"(ok:a&ok:b)&ok:c", "ok:a&ok:b&ok:c"},
		{"(ok:a&ok:b)|ok:c", "ok:a&ok:b|ok:c"},
		{"(ok:a|ok:b)&ok:c", "(ok:a|ok:b)&ok:c"},
		{"((ok:a|ok:b))&ok:c", "(ok:a|ok:b)&ok:c"},
		{"((ok:a|ok:b)&ok:c)&ok:d", "(ok:a|ok:b)&ok:c&ok:d"},
		{"((ok:a|ok:b)|ok:c)&ok:d", "(ok:a|ok:b|ok:c)&ok:d"},
		{"ok:d&((ok:a&ok:b)|ok:c)", "ok:d&(ok:a&ok:b|ok:c)"},
		{"ok:a&(ok:b|ok:c&(ok:d|ok:e&(ok:f|ok:g&(ok:h|ok:i))))", "ok:a&(ok:b|ok:c&(ok:d|ok:e&(ok:f|ok:g&(ok:h|ok:i))))"},
	} {
		checkPlain(t, c[0], c[1])
	}
}

func TestP4PlainFormOfAllSmallWants(t *testing.T) {
	list := wants(nil, "", 0, 0, 16, true)
	if len(list) < 10000 {
		t.Fatalf("only %d WANTs", len(list))
	}
	for _, want := range list {
		plain := stripped(want, true)
		if other := stripped(want, false); other != plain {
			t.Fatalf("%s: %s or %s", want, plain, other)
		}
		checkPlain(t, want, plain)
	}
}
