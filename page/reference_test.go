package page

// The chapter's rules once more, word for word and by other means than the package's, for the tests to hold it against.

import (
	"encoding/binary"

	"loess/api"
	"loess/keccak"
)

// laid is a page with that kind, that size in its head, a check that is right for these and the hashed text, and body from the 12th byte on, as far as there is room. Of an honest size, and with hashed the body, it is the Seal.
func laid(kind byte, size int, hashed, body string) string {
	var page [1024]byte
	page[0] = kind
	binary.BigEndian.PutUint16(page[1:], uint16(size))
	sum := keccak.Sum(string(page[:3]) + hashed)
	copy(page[3:11], sum[:])
	copy(page[11:], body)
	return string(page[:])
}

func ruleSeal(kind byte, body string) (string, api.Errno) {
	if len(body) > 1013 {
		return "", api.ErrSize
	}
	return laid(kind, len(body), body, body), api.OK
}

// ruleOpen asks all bodies that the page could be the Seal of, and no size that it says.
func ruleOpen(page string) (byte, string, api.Errno) {
	for n := 0; len(page) == 1024 && n <= 1013; n++ {
		if s, _ := ruleSeal(page[0], page[11:11+n]); s == page {
			return page[0], page[11 : 11+n], api.OK
		}
	}
	return 0, "", api.ErrStore
}

// metaBody is four numbers, as they stand on a meta's page; also such that no meta has.
func metaBody(tx, root, entries, pages uint64) string {
	var b []byte
	for _, n := range []uint64{tx, root, entries, pages} {
		b = binary.BigEndian.AppendUint64(b, n)
	}
	return string(b)
}

func ruleMeta(m api.Meta) (string, api.Errno) {
	if m.Tx < 0 || m.Root < 0 || m.Entries < 0 || m.Pages < 0 {
		return "", api.ErrArg
	}
	return ruleSeal('M', metaBody(uint64(m.Tx), uint64(m.Root), uint64(m.Entries), uint64(m.Pages)))
}

// ruleNewest is of two metas, each there or not.
func ruleNewest(a api.Meta, isA bool, b api.Meta, isB bool) (api.Meta, int, api.Errno) {
	switch {
	case isA && isB && b.Tx > a.Tx, isB && !isA:
		return b, 1, api.OK
	case isA:
		return a, 0, api.OK
	}
	return api.Meta{}, 0, api.ErrStore
}
