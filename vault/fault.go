package vault

import (
	"errors"
	"strconv"

	"weft/api"
)

// What can go wrong, whichever layer found it.
var (
	errConfig = errors.New("the configuration may not be")
	errDisk   = errors.New("the disk cannot be read")
	errRecord = errors.New("the record cannot be")
	errWrite  = errors.New("the log has no room")
	errTorn   = errors.New("the write tore")
)

// recordError tells at which record, counted from 0 on, something went wrong.
type recordError struct {
	number int
	err    error
}

func (e *recordError) Error() string {
	return "record " + strconv.Itoa(e.number) + ": " + e.err.Error()
}

func (e *recordError) Unwrap() error { return e.err }

// refusal holds the number by which a layer below told what went wrong.
type refusal struct {
	errno api.Errno
	err   error
}

func (r *refusal) Error() string {
	return r.err.Error() + ": error " + strconv.Itoa(int(r.errno))
}

func (r *refusal) Unwrap() error { return r.err }

// refused is what went wrong in a call of a layer below; nil, if nothing did.
func refused(errno api.Errno, what error) error {
	if errno == api.OK {
		return nil
	}
	return &refusal{errno: errno, err: what}
}

// errnoOf is what is answered for an inner error. Records are the vault's own business: why a layer below refuses one is not told.
func errnoOf(err error) api.Errno {
	if errors.Is(err, errRecord) {
		return api.ErrState
	}
	var r *refusal
	if errors.As(err, &r) {
		return r.errno
	}
	return api.OK
}
