package batch_test

import (
	"regexp"
	"slices"
	"strings"
	"testing"

	"batch/api"
	"batch/batch"
)

// headPattern says by the document's grammar, and not by the program's way of
// reading, what a head is.
func headPattern() *regexp.Regexp {
	const number = `(?:[0-9]|[1-9][0-9])`
	const leaf = `single|(?:ok|any|not):[a-z]{1,6}(?:\[` + number + `\])?`
	want := `(?:(?:` + leaf + `)[&|])*(?:` + leaf + `)`
	for range api.MaxDepth {
		factor := `(?:` + leaf + `|\(` + want + `\))`
		want = `(?:` + factor + `[&|])*` + factor
	}
	return regexp.MustCompile(`^#J [a-z]{1,6} nodes=` + number + ` time=` + number +
		`(?: array=` + number + `-` + number + `)?(?: after=` + want + `)?$`)
}

// judge tells batches and beginnings of batches by trying.
type judge struct {
	head    *regexp.Regexp
	endings []string
	known   map[string]bool
}

func newJudge() *judge {
	j := &judge{headPattern(), nil, map[string]bool{}}
	for _, piece := range []string{small, " array=1-1", " after=single", "ok:a", "any:a", "not:a", "[1]"} {
		for i := range len(piece) + 1 {
			if !slices.Contains(j.endings, piece[i:]) {
				j.endings = append(j.endings, piece[i:])
			}
		}
	}
	return j
}

func (j *judge) isBatch(text string) bool {
	heads := 0
	for _, line := range strings.Split(text, "\n") {
		if !strings.HasPrefix(line, "#J") {
			continue
		}
		if !j.head.MatchString(line) {
			return false
		}
		heads++
	}
	return heads > 0
}

// begins tells whether some batch begins with the text. A last line that is
// no head yet can end as a command, with a head behind it.
func (j *judge) begins(text string) bool {
	answer, found := j.known[text]
	if !found {
		answer = j.tryEndings(text)
		j.known[text] = answer
	}
	return answer
}

func (j *judge) tryEndings(text string) bool {
	cut := strings.LastIndexByte(text, '\n') + 1
	if cut > 0 && !j.isBatch(text[:cut]+small) {
		return false
	}
	last := text[cut:]
	if !strings.HasPrefix(last, "#J") {
		return true
	}
	open := max(0, strings.Count(last, "(")-strings.Count(last, ")"))
	for _, ending := range j.endings {
		if j.head.MatchString(last + ending + strings.Repeat(")", open)) {
			return true
		}
	}
	return false
}

func (j *judge) check(t *testing.T, text string) {
	t.Helper()
	jobs, err, at := batch.Read(text)
	if j.isBatch(text) {
		if err == api.ErrSyntax || err == api.OK && (len(jobs) == 0 || at != 0) {
			t.Errorf("Read(%q) = %v, %d, %d of a batch", text, jobs, err, at)
		}
		return
	}
	if err != api.ErrSyntax || jobs != nil || at < 0 || at > len(text) {
		t.Errorf("Read(%q) = %v, %d, %d of no batch", text, jobs, err, at)
		return
	}
	if !j.begins(text[:at]) || at < len(text) && j.begins(text[:at+1]) {
		t.Errorf("Read(%q): wrong place %d", text, at)
	}
}

// Every cut of a batch, and every byte of it left out, changed or added.
func TestP3PlaceOfEveryChange(t *testing.T) {
	const bytes = "\n #J()&|[]:-=0129abefiklmnorstyzA\x00\xff"
	j := newJudge()
	for _, text := range []string{
		small,
		"#\n#J ab nodes=8 time=10 array=3-5\n\nx",
		"#J abcdef nodes=1 time=1 array=10-12 after=single",
		small + " after=ok:a[1]|any:bc&not:abcdef[10]",
		small + " after=((ok:b&(any:c))&(not:d|((single))))",
		small + " after=((((ok:a))&single))|not:b\n#J b nodes=2 time=2",
	} {
		for i := range len(text) + 1 {
			j.check(t, text[:i])
			for k := range len(bytes) {
				j.check(t, text[:i]+bytes[k:k+1]+text[i:])
			}
			if i == len(text) {
				continue
			}
			j.check(t, text[:i]+text[i+1:])
			for k := range len(bytes) {
				j.check(t, text[:i]+bytes[k:k+1]+text[i+1:])
			}
		}
	}
}

// Read must answer at every string, so at every byte in every place.
func TestP1AnyBytes(t *testing.T) {
	j := newJudge()
	const text = "#J a nodes=1 time=1 array=1-2 after=(ok:a[1]&any:b|single)\n#"
	for b := range 256 {
		one := string([]byte{byte(b)})
		for i := range len(text) {
			j.check(t, text[:i]+one+text[i+1:])
		}
		for c := range 256 {
			j.check(t, one+string([]byte{byte(c)}))
		}
	}
	for _, deep := range []string{"(", ")", "single&(", "[", "#J", "ok:a|", "\n#J "} {
		for n := range 2 * api.MaxText {
			_, err, at := batch.Read(small + " after=" + strings.Repeat(deep, n))
			if err != api.ErrSyntax && err != api.ErrLong || at < 0 || at > api.MaxText {
				t.Fatalf("%d times %q: %d, %d", n, deep, err, at)
			}
		}
	}
}
