package first

import (
	"metronome/api"
)

// finder keeps the first fault that is found, and its place.
type finder struct {
	at   int
	what api.Errno
}

func (f *finder) refuse(at int) {
	if f.what == api.OK {
		f.at, f.what = at, api.ErrFirst
	}
}

func (f *finder) items(list []api.Item) {
	for _, i := range list {
		f.item(i)
	}
}

func (f *finder) item(i api.Item) {
	if len(i.States) == 0 {
		f.read(i.E)
		return
	}
	for _, s := range i.States {
		f.conditions(s.Unless)
		f.items(s.Items)
		f.conditions(s.Until)
	}
}

func (f *finder) conditions(list []api.Trans) {
	for _, t := range list {
		f.read(t.Cond)
	}
}

// read goes over an expression whose value is needed from the first tick on.
func (f *finder) read(e api.Exp) {
	if f.late(e) {
		f.refuse(e.At)
	}
}
