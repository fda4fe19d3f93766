package batch_test

import (
	"slices"
	"strings"
	"testing"

	"batch/api"
	"batch/batch"
)

const small = "#J a nodes=1 time=1"

type fault struct {
	text string
	err  api.Errno
	at   int
}

// checkFaults looks at the whole answer: with an error there is no list (P1).
func checkFaults(t *testing.T, faults []fault) {
	t.Helper()
	for _, f := range faults {
		jobs, err, at := batch.Read(f.text)
		if jobs != nil || err != f.err || at != f.at {
			t.Errorf("Read(%.90q) = %v, %d, %d, want nil, %d, %d", f.text, jobs, err, at, f.err, f.at)
		}
	}
}

type good struct {
	text string
	jobs []api.Job
}

func checkGood(t *testing.T, goods []good) {
	t.Helper()
	for _, g := range goods {
		jobs, err, at := batch.Read(g.text)
		if err != api.OK || at != 0 || !slices.Equal(jobs, g.jobs) {
			t.Errorf("Read(%.90q) = %+v, %d, %d, want %+v, 0, 0", g.text, jobs, err, at, g.jobs)
		}
	}
}

func job(name string, nodes, time int) api.Job {
	return api.Job{Name: name, Nodes: nodes, Time: time}
}

func arrayJob(name string, lo, hi int, after string) api.Job {
	return api.Job{Name: name, Nodes: 1, Time: 1, Array: true, Lo: lo, Hi: hi, After: after}
}

func TestP3Long(t *testing.T) {
	checkFaults(t, []fault{
		{small + strings.Repeat("\n", api.MaxText+1-len(small)), api.ErrLong, 0},
		{strings.Repeat("x", api.MaxText+1), api.ErrLong, 0},
		{"#J a nodes=9 time=0" + strings.Repeat("\n", api.MaxText), api.ErrLong, 0},
		{small + "\n" + small + strings.Repeat("\n", api.MaxText), api.ErrLong, 0},
		{strings.Repeat("x", api.MaxText), api.ErrSyntax, api.MaxText},
		{strings.Repeat("\n", api.MaxText-2) + "#J", api.ErrSyntax, api.MaxText},
	})
	rest := api.MaxText - len(small)
	checkGood(t, []good{
		{small + "\n" + strings.Repeat("x", rest-1), []api.Job{job("a", 1, 1)}},
		{strings.Repeat("\n", rest) + small, []api.Job{job("a", 1, 1)}},
	})
}

func TestP3Lines(t *testing.T) {
	checkFaults(t, []fault{
		{"", api.ErrSyntax, 0},
		{"echo", api.ErrSyntax, 4},
		{"#", api.ErrSyntax, 1},
		{"\n", api.ErrSyntax, 1},
		{"J a nodes=1 time=1", api.ErrSyntax, 18},
		{" " + small, api.ErrSyntax, 20},
		{"#j a nodes=1 time=1\n# J", api.ErrSyntax, 23},
		{"x\r" + small, api.ErrSyntax, 21},
		{"#Ja", api.ErrSyntax, 2},
		{small + "\n#Ja", api.ErrSyntax, 22},
		{"#J\n" + small, api.ErrSyntax, 2},
		{small + "\r\n", api.ErrSyntax, 19},
		{small + "\x00", api.ErrSyntax, 19},
		{small + " \n", api.ErrSyntax, 20},
		{"x\n#J a nodes=1 time=1 x\n#J", api.ErrSyntax, 22},
	})
	checkGood(t, []good{
		{small, []api.Job{job("a", 1, 1)}},
		{small + "\n", []api.Job{job("a", 1, 1)}},
		{"\n\n" + small + "\n#\n\n", []api.Job{job("a", 1, 1)}},
		{"#\n#j\n #J\nx #J\n\xff\x00\r\n" + small + "\n#", []api.Job{job("a", 1, 1)}},
		{small + "\nrun\n#J b nodes=2 time=3", []api.Job{job("a", 1, 1), job("b", 2, 3)}},
	})
}

func TestP3NamesAndNumbers(t *testing.T) {
	checkFaults(t, []fault{
		{"#J  nodes=1 time=1", api.ErrSyntax, 3},
		{"#J abcdefg nodes=1 time=1", api.ErrSyntax, 9},
		{"#J aB nodes=1 time=1", api.ErrSyntax, 4},
		{"#J a` nodes=1 time=1", api.ErrSyntax, 4},
		{"#J a{ nodes=1 time=1", api.ErrSyntax, 4},
		{"#J a", api.ErrSyntax, 4},
		{"#J a\tnodes=1 time=1", api.ErrSyntax, 4},
		{"#J a nodes= time=1", api.ErrSyntax, 11},
		{"#J a nodes=01 time=1", api.ErrSyntax, 12},
		{"#J a nodes=00 time=1", api.ErrSyntax, 12},
		{"#J a nodes=100 time=1", api.ErrSyntax, 13},
		{"#J a nodes=+1 time=1", api.ErrSyntax, 11},
		{"#J a nodes=/ time=1", api.ErrSyntax, 11},
		{"#J a nodes=1: time=1", api.ErrSyntax, 12},
		{"#J a time=1 nodes=1", api.ErrSyntax, 5},
		{"#J a nodes=1 time=", api.ErrSyntax, 18},
		{"#J a nodes=1 time=012", api.ErrSyntax, 19},
		{"#J a nodes=1 time=120", api.ErrSyntax, 20},
		{small + " array=01-2", api.ErrSyntax, 27},
		{small + " array=100-2", api.ErrSyntax, 28},
		{small + " array=1-02", api.ErrSyntax, 29},
		{small + " array=1-100", api.ErrSyntax, 30},
		{small + " array=1,2", api.ErrSyntax, 27},
		{small + " a", api.ErrSyntax, 21},
		{small + " b", api.ErrSyntax, 20},
		{small + " array=1-2 ar", api.ErrSyntax, 31},
		{small + " after=single array=1-2", api.ErrSyntax, 32},
	})
	checkGood(t, []good{
		{"#J z nodes=8 time=12", []api.Job{job("z", 8, 12)}},
		{"#J abcxyz nodes=1 time=10", []api.Job{job("abcxyz", 1, 10)}},
	})
}

func TestP3Wants(t *testing.T) {
	const head = small + " after="
	const n = len(head)
	checkFaults(t, []fault{
		{head, api.ErrSyntax, n},
		{head + "()", api.ErrSyntax, n + 1},
		{head + "single)", api.ErrSyntax, n + 6},
		{head + "(single", api.ErrSyntax, n + 7},
		{head + "(single\n)", api.ErrSyntax, n + 7},
		{head + "singles", api.ErrSyntax, n + 6},
		{head + "single:a", api.ErrSyntax, n + 6},
		{head + "single[1]", api.ErrSyntax, n + 6},
		{head + "sinGle", api.ErrSyntax, n + 3},
		{head + "ok:", api.ErrSyntax, n + 3},
		{head + "ok=a", api.ErrSyntax, n + 2},
		{head + "an:a", api.ErrSyntax, n + 2},
		{head + "no:a", api.ErrSyntax, n + 2},
		{head + "over:a", api.ErrSyntax, n + 1},
		{head + "ok:abcdefg", api.ErrSyntax, n + 9},
		{head + "ok:a[]", api.ErrSyntax, n + 5},
		{head + "ok:a[01]", api.ErrSyntax, n + 6},
		{head + "ok:a[100]", api.ErrSyntax, n + 7},
		{head + "ok:a[1", api.ErrSyntax, n + 6},
		{head + "ok:a[1][2]", api.ErrSyntax, n + 7},
		{head + "ok:a[1-2]", api.ErrSyntax, n + 6},
		{head + "ok:a|", api.ErrSyntax, n + 5},
		{head + "ok:a||ok:b", api.ErrSyntax, n + 5},
		{head + "|ok:a", api.ErrSyntax, n},
		{head + "&ok:a", api.ErrSyntax, n},
		{head + "ok:a& ok:b", api.ErrSyntax, n + 5},
		{head + "(single)(single)", api.ErrSyntax, n + 8},
		{head + "(((((single)))))", api.ErrSyntax, n + 4},
		{head + "single&((single|(single&((", api.ErrSyntax, n + 25},
	})
	for _, want := range []string{
		"single", "ok:a", "any:abcdef", "not:a[0]", "ok:a[9]", "ok:a[10]", "ok:a[99]",
		"single|ok:ok&any:any|not:not", "((((single))))", "((((single))))&((((single))))",
	} {
		_, err, at := batch.Read(head + want)
		if err != api.OK || at != 0 {
			t.Errorf("after=%s: %d, %d, want OK, 0", want, err, at)
		}
	}
}

func TestP3Limits(t *testing.T) {
	checkFaults(t, []fault{
		{"#J a nodes=0 time=1", api.ErrLimit, 11},
		{"#J a nodes=9 time=0", api.ErrLimit, 11},
		{"#J a nodes=99 time=1", api.ErrLimit, 11},
		{"#J abc nodes=10 time=0", api.ErrLimit, 13},
		{"#J a nodes=1 time=0", api.ErrLimit, 18},
		{"#J a nodes=1 time=13", api.ErrLimit, 18},
		{"#J a nodes=8 time=99 array=2-1", api.ErrLimit, 18},
		{small + " array=2-1", api.ErrLimit, 26},
		{small + " array=2-8", api.ErrLimit, 26},
		{small + " array=0-6", api.ErrLimit, 26},
		{small + " array=93-99 after=single", api.ErrLimit, 26},
		{small + " array=99-0", api.ErrLimit, 26},
		{small + "\nx\n#J b nodes=1 time=0\n#J c nodes=0 time=1", api.ErrLimit, 40},
		{small + " array=2-1\n#J b nodes=0 time=1", api.ErrLimit, 26},
	})
	checkGood(t, []good{
		{small + " array=0-0", []api.Job{arrayJob("a", 0, 0, "")}},
		{small + " array=0-5", []api.Job{arrayJob("a", 0, 5, "")}},
		{small + " array=94-99", []api.Job{arrayJob("a", 94, 99, "")}},
		{small + " array=99-99", []api.Job{arrayJob("a", 99, 99, "")}},
	})
}

func TestP3Twice(t *testing.T) {
	const b = "\n#J b nodes=1 time=1"
	checkFaults(t, []fault{
		{small + "\n" + small, api.ErrTwice, 23},
		{small + "\n" + small + "\n" + small, api.ErrTwice, 23},
		{small + b + b + "\n" + small, api.ErrTwice, 43},
		{small + b + "\n#J a nodes=2 time=2 array=1-2 after=single", api.ErrTwice, 43},
	})
	checkGood(t, []good{
		{small + "\n#J aa nodes=1 time=1" + b, []api.Job{job("a", 1, 1), job("aa", 1, 1), job("b", 1, 1)}},
	})
}

func TestP3ErrorNamedFirst(t *testing.T) {
	const limit = "#J a nodes=0 time=1"
	checkFaults(t, []fault{
		{limit + "\n#J", api.ErrSyntax, 22},
		{small + "\n" + small + "\n#J b", api.ErrSyntax, 44},
		{limit + " after=ok:", api.ErrSyntax, 29},
		{small + "\n" + small + "\n#J c nodes=1 time=13", api.ErrLimit, 58},
		{small + "\n" + limit, api.ErrLimit, 31},
		{limit + "\n" + strings.Repeat("x", api.MaxText), api.ErrLong, 0},
	})
}

func TestP4Heads(t *testing.T) {
	full := arrayJob("x", 3, 5, "ok:b&any:c&(not:d|single)")
	after := api.Job{Name: "single", Nodes: 7, Time: 11, After: "ok:ok|any:single[12]"}
	checkGood(t, []good{
		{"#J a nodes=2 time=5", []api.Job{job("a", 2, 5)}},
		{"#J x nodes=1 time=1 array=3-5 after=((ok:b&any:c)&(not:d|(single)))", []api.Job{full}},
		{"#J single nodes=7 time=11 after=ok:ok|any:single[12]", []api.Job{after}},
		{small + " array=1-1 after=not:a[1]\n#J b nodes=1 time=1", []api.Job{arrayJob("a", 1, 1, "not:a[1]"), job("b", 1, 1)}},
		{"#J z nodes=3 time=4\n#J b nodes=5 time=6\n#J m nodes=7 time=8", []api.Job{job("z", 3, 4), job("b", 5, 6), job("m", 7, 8)}},
	})
	var text string
	var want []api.Job
	for c := 'a'; c <= 'z'; c++ {
		text += "#J " + string(c) + " nodes=1 time=1\n"
		want = append(want, job(string(c), 1, 1))
	}
	checkGood(t, []good{{text, want}})
}

func TestP2ListsAreTheCallers(t *testing.T) {
	const text = small + " array=1-2 after=(single)\n#J b nodes=1 time=1\n#J c nodes=1 time=1"
	want := []api.Job{arrayJob("a", 1, 2, "single"), job("b", 1, 1), job("c", 1, 1)}
	first, _, _ := batch.Read(text)
	second, _, _ := batch.Read(text)
	spare := first[:cap(first)]
	for i := range spare {
		spare[i] = job("x", 8, 8)
	}
	third, _, _ := batch.Read(text)
	if !slices.Equal(second, want) || !slices.Equal(third, want) {
		t.Errorf("after writing into one answer the others are %+v and %+v", second, third)
	}
}
