package scalar

import (
	"math/big"
	"strings"

	"loess/api"
)

// The rules of the chapter once more, in other words: numbers are those of math/big, and a record is written by its own short way, which no part of more than 55 bytes needs.

// ruleLimit is the least number that has more than 32 bytes.
func ruleLimit() *big.Int { return new(big.Int).Lsh(big.NewInt(1), 256) }

// ruleValue is the number that bytes say, with bytes 0 ahead or without.
func ruleValue(s string) *big.Int { return new(big.Int).SetBytes([]byte(s)) }

// ruleRight is whether s is how its number is written, and is not too great.
func ruleRight(s string) bool {
	v := ruleValue(s)
	return string(v.Bytes()) == s && v.Cmp(ruleLimit()) < 0
}

// ruleTold is what a sum or a difference of a and b is told as.
func ruleTold(a, b string, v *big.Int) (string, api.Errno) {
	switch {
	case !ruleRight(a), !ruleRight(b):
		return "", api.ErrArg
	case v.Sign() < 0, v.Cmp(ruleLimit()) >= 0:
		return "", api.ErrSize
	}
	return string(v.Bytes()), api.OK
}

func ruleAdd(a, b string) (string, api.Errno) {
	return ruleTold(a, b, new(big.Int).Add(ruleValue(a), ruleValue(b)))
}

func ruleSub(a, b string) (string, api.Errno) {
	return ruleTold(a, b, new(big.Int).Sub(ruleValue(a), ruleValue(b)))
}

func ruleWide(s string) (string, api.Errno) {
	v := ruleValue(s)
	if v.Cmp(ruleLimit()) >= 0 {
		return "", api.ErrSize
	}
	return string(v.FillBytes(make([]byte, 32))), api.OK
}

// ruleText writes bytes, of which there are at most 55.
func ruleText(s string) string {
	if len(s) == 1 && s[0] < 0x80 {
		return s
	}
	return string([]byte{0x80 + byte(len(s))}) + s
}

// ruleList writes a list of bytes that has at most 255 of them in all.
func ruleList(parts ...string) string {
	all := ""
	for _, p := range parts {
		all += ruleText(p)
	}
	if len(all) > 55 {
		return string([]byte{0xf8, byte(len(all))}) + all
	}
	return string([]byte{0xc0 + byte(len(all))}) + all
}

func ruleRecord(a api.Account) string {
	return ruleList(ruleNumber(a.Nonce), a.Balance, a.Code, ruleNumber(uint64(a.Born)))
}

func ruleNumber(n uint64) string { return string(new(big.Int).SetUint64(n).Bytes()) }

// ruleLeaf is given the hash of no code as a text of its own, so that it leans on no layer.
func ruleLeaf(a api.Account, root, noCode string) string {
	code := a.Code
	if code == "" {
		code = noCode
	}
	return ruleList(ruleNumber(a.Nonce), a.Balance, root, code)
}

// ruleTexts is every text of at most that many bytes, all of them from some.
func ruleTexts(some string, most int) []string {
	texts, level := []string{""}, []string{""}
	for range most {
		var next []string
		for _, s := range level {
			for _, b := range []byte(some) {
				next = append(next, s+string([]byte{b}))
			}
		}
		texts = append(texts, next...)
		level = next
	}
	return texts
}

func zeros(n int) string { return strings.Repeat("\x00", n) }
func full(n int) string  { return strings.Repeat("\xff", n) }
