package unmark

import (
	"math"
	"runtime"
	"slices"
	"strconv"
	"strings"
	"sync"
	"testing"
	"time"
)

// checkAll: All tells of each text what a tokenizer of its own tells.
func checkAll(t *testing.T, texts []string, limit int) {
	t.Helper()
	before := slices.Clone(texts)
	lists, err := All(texts, limit)
	if err != nil || len(lists) != len(texts) {
		t.Fatalf("P5: All of %d texts up to %d: %d lists, %v", len(texts), limit, len(lists), err)
	}
	for i, list := range lists {
		if got, want := spell(list), spell(inPieces(t, texts[i])); got != want {
			t.Errorf("P5: All, text %d, %q: %s, want %s", i, texts[i], got, want)
		}
		checkUnusedFields(t, list)
	}
	if !slices.Equal(texts, before) {
		t.Errorf("P2: All has written into the list of texts: %q, was %q", texts, before)
	}
}

// manyTexts tells texts of which no two have the same tokens.
func manyTexts(number int) []string {
	var texts []string
	for i := range number {
		texts = append(texts, strings.Repeat("<b c=d>&lt", i%5)+strconv.Itoa(i)+"</e"+strings.Repeat("\xe4>", i%3))
	}
	return texts
}

func TestAll(t *testing.T) {
	for _, texts := range [][]string{
		nil,
		{},
		{""},
		{"", "", ""},
		{"<a>"},
		{"<a>", "", "b&", "<!--c-->"},
		{"<", "</", "<a", "<a b='", "<!-", "<!--", "<!doctype", "&am", "&lt", "&#", "\xe4\xb8", "\r"},
		{"same", "same", "same"},
		manyTexts(2000),
	} {
		longest := 0
		for _, text := range texts {
			longest = max(longest, len(text))
		}
		for _, limit := range []int{longest, longest + 1, math.MaxInt} {
			checkAll(t, texts, limit)
		}
	}
}

func TestAllOfTheEmptyWithoutRoom(t *testing.T) {
	for _, limit := range []int{0, -1, math.MinInt} {
		checkAll(t, nil, limit)
		checkAll(t, []string{""}, limit)
		checkAll(t, []string{"", ""}, limit)
	}
}

func TestAllWithTextsThatAreTooLong(t *testing.T) {
	many := manyTexts(300)
	many[299] = strings.Repeat("x", 1000)
	for _, c := range []struct {
		texts []string
		limit int
		first int
	}{
		{[]string{"abcd"}, 3, 0},
		{[]string{"abcd", "a", "b"}, 3, 0},
		{[]string{"a", "abcd", "b"}, 3, 1},
		{[]string{"a", "b", "abcd"}, 3, 2},
		{[]string{"abc", "abcd", "abcde", "", "abcdef"}, 3, 1},
		{[]string{"", "abc", "abcd", "abcde"}, 3, 2},
		{[]string{"abcde", "abcd"}, 3, 0},
		{[]string{"\u4e16", "\u00e9\u00e9"}, 3, 1},
		{[]string{"\r\n", "\r\n\r\n"}, 3, 1},
		{[]string{"", "x"}, 0, 1},
		{[]string{"x", "x"}, 0, 0},
		{[]string{"", "", "x", ""}, -1, 2},
		{[]string{"x"}, -1, 0},
		{[]string{"", "x"}, math.MinInt, 1},
		{many, 999, 299},
	} {
		before := slices.Clone(c.texts)
		lists, err := All(c.texts, c.limit)
		checkAt(t, "P5: All with a text that is too long", err, ErrLimit, c.first)
		if len(lists) != 0 {
			t.Errorf("P5: All of %q up to %d has told something", c.texts, c.limit)
		}
		if !slices.Equal(c.texts, before) {
			t.Errorf("P2: All has written into the list of texts: %q", c.texts)
		}
	}
}

// What is done to one list of an answer is not seen in another one, nor in the
// next answer.
func TestListsOfAllAreTheCallersOwn(t *testing.T) {
	texts := []string{"<a b=c><d e=f>", "<a b=c><d e=f>", "<a b=c><d e=f>"}
	const want = `<a["b" "c"] <d["e" "f"] .`
	lists, _ := All(texts, 100)
	lists[0][0].Attrs[0] = "changed"
	lists[0][0].Attrs = append(lists[0][0].Attrs, "changed")
	lists[0] = append(lists[0], Token{Kind: End, Name: "changed"})
	lists[0][1] = Token{Kind: End, Name: "changed"}
	lists[1] = append(lists[1][:1], Token{Kind: End, Name: "changed"})
	if got := spell(lists[2]); got != want {
		t.Errorf("P2: what was done to one list has changed another one: %s", got)
	}
	lists = append(lists[:1], nil, nil)
	checkAll(t, texts, 100)
}

func TestAllSideBySide(t *testing.T) {
	texts := manyTexts(50)
	want := make([]string, len(texts))
	for i, text := range texts {
		want[i] = spell(inPieces(t, text))
	}
	var group sync.WaitGroup
	for range 8 {
		group.Go(func() {
			lists, err := All(texts, 1000)
			if err != nil {
				t.Errorf("P5: %v", err)
			}
			for i, list := range lists {
				if got := spell(list); got != want[i] {
					t.Errorf("P5: text %d: %s, want %s", i, got, want[i])
				}
			}
		})
	}
	group.Wait()
}

func TestAllLeavesNoGoroutine(t *testing.T) {
	before := runtime.NumGoroutine()
	All(manyTexts(1000), 1000)
	All(manyTexts(1000), 10)
	// One that has done its work may still be counted for a moment.
	for range 100 {
		if runtime.NumGoroutine() <= before {
			return
		}
		time.Sleep(10 * time.Millisecond)
	}
	t.Errorf("section Ways: goroutines ahead of All: %d, behind: %d", before, runtime.NumGoroutine())
}
