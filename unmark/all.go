package unmark

import "sync"

// All takes several texts apart side by side (P5).
func All(texts []string, limit int) ([][]Token, error) {
	if i := firstTooLong(texts, max(limit, 0)); i < len(texts) {
		return nil, &At{Place: i, Err: ErrLimit}
	}
	lists := make([][]Token, len(texts))
	var group sync.WaitGroup
	for i, text := range texts {
		group.Go(func() { lists[i] = takeApart(text, limit) })
	}
	group.Wait()
	return lists, nil
}

// firstTooLong tells the number of the first text that has more bytes than
// most, or the number of all texts if there is none.
func firstTooLong(texts []string, most int) int {
	for i, text := range texts {
		if len(text) > most {
			return i
		}
	}
	return len(texts)
}

// takeApart tells the tokens of a whole text. The limit leaves room for all of
// it, so neither Write nor Close has anything to refuse.
func takeApart(text string, limit int) []Token {
	t := New(limit)
	t.Write(text)
	t.Close()
	return t.Take()
}
