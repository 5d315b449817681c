package settings

import (
	"maps"
	"slices"

	"baseboard/api"
)

const (
	statusAt  = 4
	batchesAt = 5

	done    = 0x00 // the status of what is written completely
	deleted = 0x80 // the length of a value that is deleted
	erased  = 0xFF
)

func isErased(b []byte) bool {
	return !slices.ContainsFunc(b, func(x byte) bool { return x != erased })
}

// generationOf returns the generation of a sector, or 0 if it is not valid.
func generationOf(sector []byte) int {
	g := 0
	for i, x := range sector[:statusAt] {
		g |= int(x) << (8 * i)
	}
	if sector[statusAt] != done || g > api.MaxGeneration {
		return 0
	}
	return g
}

func encodeGeneration(g int) []byte {
	return []byte{uint8(g), uint8(g >> 8), uint8(g >> 16), uint8(g >> 24)}
}

// replay returns what the batches of a sector lead to, and where its tail begins.
func replay(sector []byte) (map[uint8]string, int) {
	var settings map[uint8]string
	at := batchesAt
	for {
		l, n, ok := decodeBatch(sector[at:])
		if !ok {
			return settings, at
		}
		after := changed(settings, l)
		if len(after) > api.MaxSettings {
			return settings, at
		}
		settings, at = after, at+n
	}
}

// changed returns what the settings are after the changes.
func changed(settings map[uint8]string, l []api.Setting) map[uint8]string {
	after := map[uint8]string{}
	maps.Copy(after, settings)
	for _, c := range l {
		if c.Delete {
			delete(after, c.Key)
		} else {
			after[c.Key] = string(c.Value)
		}
	}
	return after
}

// list returns the settings ascending by key.
func list(settings map[uint8]string) []api.Setting {
	var l []api.Setting
	for _, key := range slices.Sorted(maps.Keys(settings)) {
		l = append(l, api.Setting{Key: key, Value: []byte(settings[key])})
	}
	return l
}

func encodeBatch(l []api.Setting) []byte {
	b := []byte{uint8(len(l))}
	for _, c := range l {
		if c.Delete {
			b = append(b, c.Key, deleted)
			continue
		}
		b = append(b, c.Key, uint8(len(c.Value)))
		b = append(b, c.Value...)
	}
	return append(b, done)
}

// decodeBatch returns the changes of the batch that begins with b, and the number of its bytes.
func decodeBatch(b []byte) ([]api.Setting, int, bool) {
	if len(b) == 0 || b[0] < 1 || b[0] > api.MaxSettings {
		return nil, 0, false
	}
	var l []api.Setting
	at := 1
	for range b[0] {
		c, n, ok := decodeChange(b[at:])
		if !ok {
			return nil, 0, false
		}
		l = append(l, c)
		at += n
	}
	if at == len(b) || b[at] != done {
		return nil, 0, false
	}
	return l, at + 1, true
}

// decodeChange returns the change that b begins with, and the number of its bytes.
func decodeChange(b []byte) (api.Setting, int, bool) {
	if len(b) < 2 {
		return api.Setting{}, 0, false
	}
	key, length := b[0], int(b[1])
	if length == deleted {
		return api.Setting{Key: key, Delete: true}, 2, true
	}
	if length > api.MaxValue || length > len(b)-2 {
		return api.Setting{}, 0, false
	}
	return api.Setting{Key: key, Value: b[2 : 2+length]}, 2 + length, true
}
