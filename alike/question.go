package alike

import "drachm/api"

// question is what is asked ahead of an answer: it is OK, or why there is none.
type question func() api.Errno

// unless is the question that comes to an error, if something does not hold.
func unless(err api.Errno, holds func() bool) question {
	return func() api.Errno {
		if holds() {
			return api.OK
		}
		return err
	}
}

// first is the first error that some rows of questions come to, and the place of its row; OK, and the last place, if there is none. Behind an error nothing is asked, as later questions lean on what earlier ones put down.
func first(rows ...[]question) (at int, err api.Errno) {
asking:
	for at = range rows {
		for _, ask := range rows[at] {
			if err = ask(); err != api.OK {
				break asking
			}
		}
	}
	return at, err
}
