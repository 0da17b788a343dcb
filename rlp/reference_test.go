package rlp

import (
	"math/big"
	"strings"

	"loess/api"
)

// The rules of the chapter once more, in their own words: numbers are those of math/big, and what bytes say is found by holding each thing that they may be against what it is written as.

// ruleBytes is n, the greatest first, without bytes 0 ahead.
func ruleBytes(n uint64) string { return string(new(big.Int).SetUint64(n).Bytes()) }

func ruleHead(base, n int) string {
	if n <= 55 {
		return string([]byte{byte(base + n)})
	}
	size := ruleBytes(uint64(n))
	return string([]byte{byte(base + 55 + len(size))}) + size
}

func ruleText(s string) string {
	if len(s) == 1 && s[0] <= 127 {
		return s
	}
	return ruleHead(128, len(s)) + s
}

func ruleList(s string) string { return ruleHead(192, len(s)) + s }

// ruleWrite writes x, without a look at whether it may be.
func ruleWrite(x api.Item) string {
	if !x.List {
		return ruleText(x.Bytes)
	}
	var all strings.Builder
	for _, item := range x.Items {
		all.WriteString(ruleWrite(item))
	}
	return ruleList(all.String())
}

// rulePart is one way to read the beginning of a text.
type rulePart struct {
	payload string
	list    bool
	rest    string
}

// ruleParts is every thing that s may begin with: for each end, and each part of the bytes ahead of it as a payload, those whose writing is just these bytes.
func ruleParts(s string) []rulePart {
	var parts []rulePart
	for end := 1; end <= len(s); end++ {
		for from := 0; from <= min(end, 9); from++ {
			payload := s[from:end]
			if ruleText(payload) == s[:end] {
				parts = append(parts, rulePart{payload, false, s[end:]})
			}
			if ruleList(payload) == s[:end] {
				parts = append(parts, rulePart{payload, true, s[end:]})
			}
		}
	}
	return parts
}

// ruleRow reads s as a row of things at that depth.
func ruleRow(s string, depth int) ([]api.Item, bool) {
	var items []api.Item
	for len(s) > 0 {
		parts := ruleParts(s)
		if len(parts) == 0 || depth > api.MaxItems {
			return nil, false
		}
		item := api.Item{List: parts[0].list}
		if item.List {
			inner, ok := ruleRow(parts[0].payload, depth+1)
			if !ok {
				return nil, false
			}
			item.Items = inner
		} else {
			item.Bytes = parts[0].payload
		}
		items = append(items, item)
		s = parts[0].rest
	}
	return items, true
}

// same is whether two things are alike; nil and empty lists count as the same.
func same(a, b api.Item) bool {
	if a.List != b.List || a.Bytes != b.Bytes || len(a.Items) != len(b.Items) {
		return false
	}
	for i := range a.Items {
		if !same(a.Items[i], b.Items[i]) {
			return false
		}
	}
	return true
}
