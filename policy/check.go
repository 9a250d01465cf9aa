package policy

import (
	"slices"

	"parclose/api"
	"parclose/label"
	"parclose/sign"
)

func goodCounts(p api.Policy) bool {
	return within(len(p.Domains), 1, api.MaxDomains) && within(len(p.Slots), 1, api.MaxSlots) && len(p.Links) <= api.MaxLinks
}

func within(n, low, high int) bool {
	return low <= n && n <= high
}

func checkDomains(list []api.Domain) api.Errno {
	for i, d := range list {
		switch {
		case !sign.Name(d.Name) || place(list[:i], d.Name) >= 0:
			return api.ErrName
		case !label.Good(d.Label):
			return api.ErrLabel
		case !goodQuotas(d):
			return api.ErrArg
		}
	}
	return api.OK
}

func goodQuotas(d api.Domain) bool {
	return within(d.Tasks, 1, api.MaxTasks) && within(d.Objects, 0, api.MaxObjects) && within(d.Ring, 1, api.MaxRing)
}

func checkSlots(list []api.Slot, domains int) api.Errno {
	for _, s := range list {
		if !within(s.Dom, 0, domains-1) || !within(s.Len, 1, api.MaxLen) {
			return api.ErrArg
		}
	}
	for n := range domains {
		if !slices.ContainsFunc(list, func(s api.Slot) bool { return s.Dom == n }) {
			return api.ErrSlot
		}
	}
	return api.OK
}

func checkLinks(list []api.Link, domains []api.Domain) api.Errno {
	for _, l := range list {
		if !goodEnds(l, len(domains)) || !goodSize(l) {
			return api.ErrArg
		}
		if !label.Leq(domains[l.From].Label, domains[l.To].Label) {
			return api.ErrDenied
		}
	}
	return api.OK
}

func goodEnds(l api.Link, domains int) bool {
	return within(l.From, 0, domains-1) && within(l.To, 0, domains-1) && l.From != l.To
}

// goodSize is false of a kind that is none, too: nothing is its size.
func goodSize(l api.Link) bool {
	switch l.Kind {
	case api.Cell:
		return within(l.Size, 1, api.MaxWords)
	case api.Pump:
		return within(l.Size, 1, api.MaxPump)
	}
	return false
}
