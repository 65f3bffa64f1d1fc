package check

import "tribunal/api"

// try tells what is wrong; OK: nothing is.
type try func() api.Errno

// first is the error of the first one that tells any; those behind it are not tried, as they may lean on it.
func first(l ...try) api.Errno {
	return each(l, func(t try) api.Errno { return t() })
}

// unless tells an error, if something does not hold, which is asked when it is tried.
func unless(err api.Errno, holds func() bool) try {
	return func() api.Errno {
		if holds() {
			return api.OK
		}
		return err
	}
}

// each is the error of the first one of a list of which any is told.
func each[T any](l []T, wrong func(T) api.Errno) api.Errno {
	for _, one := range l {
		if err := wrong(one); err != api.OK {
			return err
		}
	}
	return api.OK
}
