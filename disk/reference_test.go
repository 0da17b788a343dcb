package disk

import (
	"slices"
	"strings"

	"loess/api"
)

// The rules of the chapter once more, by its own words: a device is the list of all sectors that were written and last, and the list of those that do not last; what stands on a page is found by going over both.

type ruleSector struct {
	page, place int
	text        string
}

type ruleDisk struct {
	pages          int
	lasting, loose []ruleSector
	done           int
	dark           bool
	armed          bool
	arm, sinceArm  int
	fails          []int
	sinceFail      int
}

func ruleKept(pages int) int {
	if pages < 0 {
		return 0
	}
	if pages > 65536 {
		return 65536
	}
	return pages
}

func ruleNew(pages int) ruleDisk {
	return ruleDisk{pages: ruleKept(pages)}
}

func (r *ruleDisk) limit(pages int) { r.pages = ruleKept(pages) }

// operation is the error of an operation; right is whether its arguments may be.
func (r *ruleDisk) operation(right bool) api.Errno {
	if r.dark {
		return api.ErrPower
	}
	if !right {
		return api.ErrArg
	}
	r.sinceArm++
	r.sinceFail++
	if r.armed && r.sinceArm > r.arm {
		r.dark = true
		return api.ErrPower
	}
	if slices.Contains(r.fails, r.sinceFail) {
		return api.ErrDisk
	}
	r.done++
	return api.OK
}

func (r *ruleDisk) right(n int) bool { return n >= 0 && n < r.pages }

// text is what stands on a page, whoever asks.
func (r *ruleDisk) text(n int) string {
	parts := []string{strings.Repeat("\x00", 256), strings.Repeat("\x00", 256), strings.Repeat("\x00", 256), strings.Repeat("\x00", 256)}
	for _, s := range slices.Concat(r.lasting, r.loose) {
		if s.page == n {
			parts[s.place] = s.text
		}
	}
	return strings.Join(parts, "")
}

func (r *ruleDisk) read(n int) (string, api.Errno) {
	if e := r.operation(r.right(n)); e != api.OK {
		return "", e
	}
	return r.text(n), api.OK
}

func (r *ruleDisk) write(n int, data string) api.Errno {
	e := r.operation(r.right(n) && len(data) == 1024)
	if e == api.OK {
		for place := range 4 {
			r.loose = append(r.loose, ruleSector{n, place, data[place*256 : place*256+256]})
		}
	}
	return e
}

func (r *ruleDisk) sync() api.Errno {
	e := r.operation(true)
	if e == api.OK {
		r.lasting, r.loose = slices.Concat(r.lasting, r.loose), nil
	}
	return e
}

func (r *ruleDisk) used() int {
	n := 0
	for _, s := range slices.Concat(r.lasting, r.loose) {
		n = max(n, s.page+1)
	}
	return n
}

func (r *ruleDisk) armWith(ops int) { r.armed, r.arm, r.sinceArm = true, max(ops, 0), 0 }

func (r *ruleDisk) failAt(ops ...int) { r.fails, r.sinceFail = slices.Clone(ops), 0 }

func (r *ruleDisk) clear() { r.armed, r.fails = false, nil }

func (r *ruleDisk) crash(picks ...int) {
	for i, s := range r.loose {
		if i < len(picks) && picks[i]%2 != 0 {
			r.lasting = append(r.lasting, s)
		}
	}
	r.loose, r.dark = nil, false
	r.clear()
}

func (r *ruleDisk) copied() ruleDisk {
	c := *r
	c.lasting, c.loose, c.fails = slices.Clone(r.lasting), slices.Clone(r.loose), slices.Clone(r.fails)
	return c
}
