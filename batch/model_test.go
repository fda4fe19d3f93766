package batch_test

import (
	"fmt"
	"math/rand"
	"regexp"
	"slices"
	"strconv"
	"strings"
	"testing"

	"batch/api"
	"batch/batch"
)

// model tells by the document's words what a system must answer to batches.
// It finds heads and REFs by regular expressions, and is slow.
type model struct {
	nodes   int
	jobs    int
	batches [][]modelHead
}

type modelHead struct {
	name    string
	nodes   int
	nodesAt int
	time    int
	array   bool
	lo      int
	ids     []int
	want    string
	wantAt  int
}

var (
	headLine = regexp.MustCompile(`(?m)^#J ([a-z]+) nodes=(\d+) time=(\d+)(?: array=(\d+)-(\d+))?(?: after=(\S+))?$`)
	leafIn   = regexp.MustCompile(`single|(ok|any|not):([a-z]+(?:\[\d+\])?)`)
	inside   = regexp.MustCompile(`\(([TFU])\)`)
	anded    = regexp.MustCompile(`[TFU]&[TFU]`)
	ored     = regexp.MustCompile(`(^|[(|])([TFU])\|([TFU])($|[)|])`)
)

// heads tells the heads of a text that Read takes, with numbers for their jobs.
func (m *model) heads(text string) []modelHead {
	var list []modelHead
	next := m.jobs
	for _, at := range headLine.FindAllStringSubmatchIndex(text, -1) {
		part := func(k int) string {
			if at[2*k] < 0 {
				return ""
			}
			return text[at[2*k]:at[2*k+1]]
		}
		h := modelHead{name: part(1), nodesAt: at[4], want: part(6), wantAt: at[12]}
		h.nodes, _ = strconv.Atoi(part(2))
		h.time, _ = strconv.Atoi(part(3))
		hi := 0
		if part(4) != "" {
			h.array = true
			h.lo, _ = strconv.Atoi(part(4))
			hi, _ = strconv.Atoi(part(5))
		}
		for range hi - h.lo + 1 {
			h.ids = append(h.ids, next)
			next++
		}
		list = append(list, h)
	}
	return list
}

// named tells the jobs of a REF of a batch, and the number of its head there
// (-1: it stands in an earlier one); nil, if there is no such REF.
func named(batches [][]modelHead, ref string) ([]int, int) {
	name, number, numbered := strings.Cut(strings.TrimSuffix(ref, "]"), "[")
	for b := len(batches) - 1; b >= 0; b-- {
		for i, h := range batches[b] {
			if h.name != name {
				continue
			}
			if b < len(batches)-1 {
				i = -1
			}
			if !numbered {
				return h.ids, i
			}
			n, _ := strconv.Atoi(number)
			if !h.array || n < h.lo || n-h.lo >= len(h.ids) {
				return nil, i
			}
			return h.ids[n-h.lo : n-h.lo+1], i
		}
	}
	return nil, -1
}

// edges tells for each two heads of the last batch whether the one has a REF
// to the other.
func edges(batches [][]modelHead) [][]bool {
	heads := batches[len(batches)-1]
	has := make([][]bool, len(heads))
	for i, h := range heads {
		has[i] = make([]bool, len(heads))
		for _, r := range leafIn.FindAllStringSubmatch(h.want, -1) {
			if r[2] == "" {
				continue
			}
			if _, k := named(batches, r[2]); k >= 0 {
				has[i][k] = true
			}
		}
	}
	return has
}

func hasRing(has [][]bool) bool {
	reach := make([][]bool, len(has))
	for i := range has {
		reach[i] = slices.Clone(has[i])
	}
	for k := range reach {
		for i := range reach {
			for j := range reach {
				reach[i][j] = reach[i][j] || reach[i][k] && reach[k][j]
			}
		}
	}
	for i := range reach {
		if reach[i][i] {
			return true
		}
	}
	return false
}

func isRing(has [][]bool, ring []int) bool {
	for i, h := range ring {
		if h < 0 || h >= len(has) || slices.Contains(ring[:i], h) {
			return false
		}
	}
	for i, h := range ring {
		if !has[h][ring[(i+1)%len(ring)]] {
			return false
		}
	}
	return len(ring) > 0
}

// submit tells what Submit must answer, but for the ring, of which it tells
// whether the one answered is one; and it takes the batch, if Submit must.
func (m *model) submit(text string, ring []int) api.Answer {
	if _, err, at := batch.Read(text); err != api.OK {
		return api.Answer{Err: err, At: at}
	}
	heads := m.heads(text)
	for _, h := range heads {
		if h.nodes > m.nodes {
			return api.Answer{Err: api.ErrNodes, At: h.nodesAt}
		}
	}
	batches := append(slices.Clone(m.batches), heads)
	for _, h := range heads {
		for _, at := range leafIn.FindAllStringSubmatchIndex(h.want, -1) {
			if at[4] < 0 {
				continue
			}
			if jobs, _ := named(batches, h.want[at[4]:at[5]]); jobs == nil {
				return api.Answer{Err: api.ErrRef, At: h.wantAt + at[4]}
			}
		}
	}
	if has := edges(batches); hasRing(has) {
		if !isRing(has, ring) {
			ring = []int{-1}
		}
		return api.Answer{Err: api.ErrCycle, Cycle: ring}
	}
	count := 0
	for _, h := range heads {
		count += len(h.ids)
	}
	if m.jobs+count > api.MaxJobs {
		return api.Answer{Err: api.ErrFull}
	}
	answer := api.Answer{First: m.jobs, Count: count}
	m.batches = batches
	m.jobs += count
	return answer
}

// head tells the batch and the head of a job.
func (m *model) head(id int) (int, modelHead) {
	for b, heads := range m.batches {
		for _, h := range heads {
			if slices.Contains(h.ids, id) {
				return b, h
			}
		}
	}
	return -1, modelHead{}
}

// value works a job's value out by replacing values in the text of its WANT.
func (m *model) value(id int, states []int) int {
	b, h := m.head(id)
	line := leafIn.ReplaceAllStringFunc(h.want, func(leaf string) string {
		kind, ref, _ := strings.Cut(leaf, ":")
		var jobs []int
		if kind == "single" {
			kind = "over"
			for _, heads := range m.batches[:b] {
				for _, other := range heads {
					if other.name == h.name {
						jobs = append(jobs, other.ids...)
					}
				}
			}
		} else {
			jobs, _ = named(m.batches[:b+1], ref)
		}
		value := "T"
		for _, job := range jobs {
			value = joinLetters(value, ofState(kind, states[job]), "&")
		}
		return value
	})
	if line == "" {
		return api.True
	}
	return valueOf(line)
}

// valueOf works out a WANT with letters in the place of its leaves.
func valueOf(line string) int {
	for len(line) > 1 {
		line = inside.ReplaceAllString(line, "$1")
		line = anded.ReplaceAllStringFunc(line, func(s string) string { return joinLetters(s[:1], s[2:], "&") })
		if at := ored.FindStringSubmatchIndex(line); at != nil {
			line = line[:at[4]] + joinLetters(line[at[4]:at[5]], line[at[6]:at[7]], "|") + line[at[7]:]
		}
	}
	return strings.Index(letters, line)
}

// pair is a system and its model.
type pair struct {
	s *batch.System
	m *model
}

func newPair(t *testing.T, nodes int) pair {
	t.Helper()
	return pair{newSystem(t, nodes), &model{nodes: nodes}}
}

func newSystem(t *testing.T, nodes int) *batch.System {
	t.Helper()
	s, err := batch.New(nodes)
	if s == nil || err != api.OK {
		t.Fatalf("New(%d) = %v, %d", nodes, s, err)
	}
	return s
}

// submit checks the whole answer, and how many jobs there are.
func (p pair) submit(t *testing.T, text string) api.Answer {
	t.Helper()
	got := p.s.Submit(text)
	want := p.m.submit(text, got.Cycle)
	if fmt.Sprintf("%#v", got) != fmt.Sprintf("%#v", want) {
		t.Errorf("Submit(%q) = %#v, want %#v", text, got, want)
	}
	if _, _, jobs := p.s.Clock(); jobs != p.m.jobs {
		t.Errorf("after Submit(%q): %d jobs, want %d", text, jobs, p.m.jobs)
	}
	return got
}

// codes checks the code of every job by some states of all jobs.
func (p pair) codes(t *testing.T, lists [][]int) {
	t.Helper()
	for id := range p.m.jobs {
		code, err := p.s.Code(id)
		if err != api.OK {
			t.Fatalf("Code(%d) = %q, %d", id, code, err)
		}
		for _, states := range lists {
			value, err := batch.Exec(code, states)
			want := p.m.value(id, states)
			if value != want || err != api.OK {
				_, h := p.m.head(id)
				t.Fatalf("job %d, after=%s: %q by %v leaves %d, %d, want %d", id, h.want, code, states, value, err, want)
			}
		}
	}
}

// allStates tells all lists of states of n jobs.
func allStates(n int) [][]int {
	lists := [][]int{nil}
	for range n {
		var longer [][]int
		for _, list := range lists {
			for state := range 7 {
				longer = append(longer, append(slices.Clone(list), state))
			}
		}
		lists = longer
	}
	return lists
}

// someStates tells lists of states of n jobs, mostly ends, as these decide.
func someStates(rng *rand.Rand, n, count int) [][]int {
	lists := make([][]int, count)
	for i := range lists {
		likely := rng.Intn(7)
		for range n {
			state := likely
			if rng.Intn(3) == 0 {
				state = rng.Intn(7)
			}
			lists[i] = append(lists[i], state)
		}
	}
	return lists
}

func randomWant(rng *rand.Rand, depth int) string {
	var want strings.Builder
	for {
		switch {
		case depth < api.MaxDepth && rng.Intn(4) == 0:
			want.WriteString("(" + randomWant(rng, depth+1) + ")")
		case rng.Intn(5) == 0:
			want.WriteString("single")
		default:
			want.WriteString([]string{"ok:", "any:", "not:"}[rng.Intn(3)])
			want.WriteByte("abcdef"[min(rng.Intn(6), rng.Intn(6))])
			if rng.Intn(4) == 0 {
				fmt.Fprintf(&want, "[%d]", rng.Intn(4))
			}
		}
		if rng.Intn(2) == 0 {
			return want.String()
		}
		want.WriteByte("&|"[rng.Intn(2)])
	}
}

func randomBatch(rng *rand.Rand) string {
	var lines []string
	names := rng.Perm(6)
	for _, k := range names[:1+min(rng.Intn(6), rng.Intn(6))] {
		if rng.Intn(60) == 0 {
			k = names[0]
		}
		line := fmt.Sprintf("#J %c nodes=%d time=%d", 'a'+k, 1+min(rng.Intn(8), rng.Intn(8), rng.Intn(8)), 1+rng.Intn(api.MaxTime))
		if rng.Intn(2) == 0 {
			lo := rng.Intn(3)
			line += fmt.Sprintf(" array=%d-%d", lo, lo+rng.Intn(3))
		}
		if rng.Intn(3) > 0 {
			line += " after=" + randomWant(rng, 0)
		}
		lines = append(lines, line)
		if rng.Intn(5) == 0 {
			lines = append(lines, "run")
		}
	}
	return strings.Join(lines, "\n")
}

func TestP7P9ManySystems(t *testing.T) {
	rng := rand.New(rand.NewSource(1))
	seen := map[api.Errno]int{}
	for range 1500 {
		p := newPair(t, 4+rng.Intn(5))
		for range 20 {
			answer := p.submit(t, randomBatch(rng))
			seen[answer.Err]++
			if answer.Err == api.OK {
				p.codes(t, someStates(rng, p.m.jobs, 8))
			}
		}
		if t.Failed() {
			return
		}
	}
	for _, err := range []api.Errno{api.OK, api.ErrTwice, api.ErrNodes, api.ErrRef, api.ErrCycle, api.ErrFull} {
		if seen[err] < 50 {
			t.Errorf("error %d only %d times", err, seen[err])
		}
	}
}
