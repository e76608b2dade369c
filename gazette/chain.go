package gazette

import (
	"pandect/api"
	"pandect/digest"
)

// Digest returns the digest of a gazette's text, or the empty string if it has no text.
func Digest(g api.Gazette) string {
	last, _ := tailOf(g)
	return last.digest
}

// tail is what the successor of a gazette depends on. The zero tail is that of the empty chain: its successor has the number 1, any day and no Prior.
type tail struct {
	number, day int
	digest      string
}

// tailOf returns the tail of a chain whose last gazette is g, or false if g has no text.
func tailOf(g api.Gazette) (tail, bool) {
	text, errno := Format(g)
	if errno != api.OK {
		return tail{}, false
	}
	return tail{g.Number, g.Day, digest.Sum(text)}, true
}

// check returns OK if g, which has a text, can follow, or the reason why it cannot.
func (last tail) check(g api.Gazette) api.Errno {
	switch {
	case g.Number != last.number+1:
		return api.ErrGap
	case g.Day < last.day:
		return api.ErrOrder
	case g.Prior != last.digest:
		return api.ErrBroken
	}
	return api.OK
}

// CheckSuccessor returns OK if b is a successor of a, or the reason why it is not.
func CheckSuccessor(a, b api.Gazette) api.Errno {
	last, okA := tailOf(a)
	_, okB := tailOf(b)
	if !okA || !okB {
		return api.ErrArg
	}
	return last.check(b)
}

// CheckChain returns the length of l if it is a chain, or the index of the first gazette that violates the chain property and the reason.
func CheckChain(l ...api.Gazette) (int, api.Errno) {
	var last tail
	for i, g := range l {
		next, ok := tailOf(g)
		if !ok {
			return i, api.ErrArg
		}
		if errno := last.check(g); errno != api.OK {
			return i, errno
		}
		last = next
	}
	return len(l), api.OK
}

// Next returns the gazette with the given day and acts that extends the chain l.
func Next(l []api.Gazette, day int, acts ...api.Act) (api.Gazette, api.Errno) {
	if _, errno := CheckChain(l...); errno != api.OK {
		return api.Gazette{}, errno
	}
	var last tail
	if len(l) > 0 {
		last, _ = tailOf(l[len(l)-1]) // which has a text, as l is a chain
		if day < last.day {
			return api.Gazette{}, api.ErrOrder
		}
	}
	text, errno := Format(api.Gazette{Number: last.number + 1, Day: day, Prior: last.digest, Acts: acts})
	if errno != api.OK {
		return api.Gazette{}, errno
	}
	g, _, errno := Parse(text) // a gazette that is read from its text shares no memory with the acts
	return g, errno
}
