package state

import "smithy/api"

// World answers what an account is, and whether it is known.
type World interface {
	Account(a api.Address) (api.Account, bool)
}

// list is a world that knows all accounts; those that it hasn't are empty.
type list map[api.Address]api.Account

// List is a world of some accounts.
func List(l []api.Account) World {
	w := make(list, len(l))
	for _, x := range l {
		if _, ok := w[x.Address]; !ok {
			w[x.Address] = copied(x)
		}
	}
	return w
}

// Account is an account of the list, or an empty one.
func (w list) Account(a api.Address) (api.Account, bool) {
	x := copied(w[a])
	x.Address = a
	return x, true
}

// answer is what a world answers. A world may be anybody's: one that panics
// knows nothing, for no call of a state may panic.
func answer(w World, a api.Address) (x api.Account, known bool) {
	defer func() {
		if recover() != nil {
			x, known = api.Account{}, false
		}
	}()
	return w.Account(a)
}

// copied is an account that shares nothing with x: what is handed in or out
// may be changed by whoever has it.
func copied(x api.Account) api.Account {
	x.Code = append([]byte(nil), x.Code...)
	x.Storage = append([]api.Slot(nil), x.Storage...)
	return x
}
