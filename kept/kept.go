// Package kept: the memory of a kept environment: which of its pages are in, where they lie, which one goes out next, and what lies outside.
// A page that is handed in is one that there is: the caller has seen to that.
package kept

import "frames/api"

// record: what is known of one page.
type record struct {
	frame   int                // where it lies; says nothing while the page is not in
	changed bool               // written since it came in; says nothing while the page is not in
	dirty   bool               // written since Keep, or since the last Clean
	stored  bool               // gone out changed since Keep: outside holds it
	outside [api.PageSize]byte // all 0 of a page that was never stored, and that is what such a page holds
}

// Memory of one kept environment.
type Memory struct {
	quota  int
	policy int
	pages  [api.MaxPages]record
	// in: the pages that are in. Under Oldest in the order in which they came in, else in the order of their last access,
	// so that the policy chooses the first or the last one, and no clock is needed.
	in      []int
	refills int
	ins     int
	outs    int
}

// Empty makes a memory in which all bytes are 0 and no page is in.
func Empty(quota int, policy int) Memory {
	return Memory{quota: quota, policy: policy}
}

// HasRoom tells whether fewer pages are in than the quota allows.
func (k *Memory) HasRoom() bool { return len(k.in) < k.quota }

// SetQuota sets another quota, and tells by how many pages those that are in go beyond it: 0 or less, if they don't.
func (k *Memory) SetQuota(quota int) int {
	k.quota = quota
	return len(k.in) - quota
}

// Frame tells where a page lies, if it is in.
func (k *Memory) Frame(page int) (int, bool) {
	for _, p := range k.in {
		if p == page {
			return k.pages[page].frame, true
		}
	}
	return 0, false
}

// Changed tells whether a page that is in was written since it came in.
func (k *Memory) Changed(page int) bool { return k.pages[page].changed }

// Chosen tells the page that the policy chooses to go out, and where it lies, if one is in.
func (k *Memory) Chosen() (int, int, bool) {
	if len(k.in) == 0 {
		return 0, 0, false
	}
	page := k.in[0]
	if k.policy == api.Freshest {
		page = k.in[len(k.in)-1]
	}
	return page, k.pages[page].frame, true
}

// GoOut takes a page out that is in; bytes is what its frame holds.
func (k *Memory) GoOut(page int, bytes [api.PageSize]byte) {
	if k.pages[page].changed {
		k.outs++
		k.pages[page].stored = true
		k.pages[page].outside = bytes
	}
	k.in = without(k.in, page)
}

// ComeIn lays a page that is not in into a frame, and tells what the frame must hold from now on.
func (k *Memory) ComeIn(page int, frame int) [api.PageSize]byte {
	if k.pages[page].stored {
		k.ins++
	}
	k.pages[page].frame = frame
	k.pages[page].changed = false
	k.in = append(k.in, page)
	return k.pages[page].outside
}

// Touch says that a page that is in was accessed, by a Write or not.
func (k *Memory) Touch(page int, write bool) {
	if write {
		k.pages[page].changed = true
		k.pages[page].dirty = true
	}
	if k.policy == api.Oldest {
		return
	}
	k.in = without(k.in, page)
	k.in = append(k.in, page)
}

// Dirty tells the pages that are dirty, in rising order, as a fresh list. They need not be in.
func (k *Memory) Dirty() []int {
	var list []int
	for page := range k.pages {
		if k.pages[page].dirty {
			list = append(list, page)
		}
	}
	return list
}

// Clean makes none dirty. A page stays changed: what it holds still differs from what lies outside.
func (k *Memory) Clean() {
	for page := range k.pages {
		k.pages[page].dirty = false
	}
}

// CountRefill says that an entry was put into the table.
func (k *Memory) CountRefill() { k.refills++ }

// Counts tells how often what was done, and how many pages are in.
func (k *Memory) Counts() api.Counts {
	return api.Counts{Refills: k.refills, Ins: k.ins, Outs: k.outs, In: len(k.in)}
}

// without tells a list without n, as a fresh one.
func without(list []int, n int) []int {
	var rest []int
	for _, x := range list {
		if x != n {
			rest = append(rest, x)
		}
	}
	return rest
}
