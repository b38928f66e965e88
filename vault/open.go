package vault

import (
	"weft/api"
	"weft/conf"
	"weft/journal"
	"weft/lease"
)

// Open gives the store that lies on a disk.
func Open(c api.Config, d api.Disk) (*Vault, api.Errno) {
	v, err := open(c, d)
	if err != nil {
		return nil, errnoOf(err)
	}
	return v, api.OK
}

func open(c api.Config, d api.Disk) (*Vault, error) {
	if err := refused(conf.Check(c), errConfig); err != nil {
		return nil, err
	}
	log, recs, errno := journal.Open(d)
	if err := refused(errno, errDisk); err != nil {
		return nil, err
	}
	store, behind, err := replay(c, recs)
	if err != nil {
		return nil, err
	}
	return &Vault{store: store, log: log, behind: behind, armed: unarmed}, nil
}

// replay gives the store that a log's records tell, and how many of them are behind its base.
func replay(c api.Config, recs [][]byte) (*lease.Store, int, error) {
	store, commands, err := begin(c, recs)
	if err != nil {
		return nil, 0, &recordError{number: 0, err: err}
	}
	base := len(recs) - len(commands)
	for i, rec := range commands {
		if err := redo(store, rec); err != nil {
			return nil, 0, &recordError{number: base + i, err: err}
		}
	}
	return store, len(commands), nil
}

// begin gives the store that a log begins with, and the records behind that.
func begin(c api.Config, recs [][]byte) (*lease.Store, [][]byte, error) {
	if len(recs) == 0 || !isImage(recs[0]) {
		store, _ := lease.New(c) // conf.Check has taken c
		return store, recs, nil
	}
	img, err := readImage(recs[0])
	if err != nil {
		return nil, nil, err
	}
	store, errno := lease.Restore(c, img)
	return store, recs[1:], refused(errno, errRecord)
}

// redo carries out the command of a record once more.
func redo(store *lease.Store, rec []byte) error {
	cmd, err := readCommand(rec)
	if err != nil {
		return err
	}
	return refused(store.Apply(cmd).Err, errRecord)
}
