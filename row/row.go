// Package row holds what servers in a row, and the clients who send through them, want at each server in turn.
package row

import (
	"churn/api"
	"churn/route"
)

// Keys: the servers' keys of an epoch. However many master keys there are, each is looked at: a wrong one is told ahead of their number.
func Keys(masters [][]byte, epoch int64) ([][]byte, api.Errno) {
	var keys [][]byte
	for _, master := range masters {
		key, e := route.Key(master, epoch)
		if e != api.OK {
			return nil, e
		}
		keys = append(keys, key)
	}
	return keys, api.OK
}

// Tape: the tape of server number i; one that is not there is empty. It is no copy.
func Tape(tapes [][]byte, i int) []byte {
	if i < len(tapes) {
		return tapes[i]
	}
	return nil
}
