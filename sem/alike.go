package sem

import (
	"slices"

	"planish/api"
)

// Alike tells whether b may be a run of what a module was made, of which a is a run of the module (P11.4).
func Alike(a, b api.Run, bound int) bool {
	if !oneBegins(a.Trace, b.Trace) {
		return false
	}
	if a.Kind == api.Runs || tooDeep(a) {
		return true
	}
	if b.Kind == api.Runs {
		return b.Steps < bound
	}
	// A b that is too deep is refused here too: a is not, so that Kind or Trap differ.
	return a.Kind == b.Kind && a.Trap == b.Trap && a.Value == b.Value && len(a.Trace) == len(b.Trace)
}

// tooDeep tells whether a run is Trapped with TrapDepth.
func tooDeep(r api.Run) bool { return r.Kind == api.Trapped && r.Trap == api.TrapDepth }

// oneBegins tells whether one of two Traces is the beginning of the other one, or they are the same.
func oneBegins(a, b []api.Event) bool {
	n := min(len(a), len(b))
	return slices.EqualFunc(a[:n], b[:n], sameEvent)
}

func sameEvent(a, b api.Event) bool {
	return a.Name == b.Name && slices.Equal(a.Args, b.Args) && a.Answer == b.Answer
}
