package machine

import (
	"slices"

	"hart/api"
)

// history has the last groups, the last one last.
type history struct {
	groups []api.Group
}

func (h *history) note(g api.Group) {
	if len(h.groups) == api.MaxGroups {
		h.groups = slices.Delete(h.groups, 0, 1)
	}
	h.groups = append(h.groups, g)
}

// Groups tells the last groups; the list is the caller's.
func (h *history) Groups() []api.Group {
	return slices.Clone(h.groups)
}
