package manifest

import (
	"consignor/api"
	"consignor/text"
)

const (
	nameConfig = "config"
	nameDigest = "digest"
	nameKids   = "kids"
	nameKind   = "kind"
	nameLayers = "layers"
	nameSize   = "size"

	kindImage = "image"
	kindIndex = "index"
)

// write is the value that a manifest is written as. An object's names rise, or it has no text.
func write(m api.Manifest) api.Value {
	if m.Index {
		return object([]string{nameKids, nameKind}, row(m.Kids, word), word(kindIndex))
	}
	rows := row(m.Layers, func(l api.Layer) api.Value {
		return object([]string{nameDigest, nameSize}, word(l.Digest), whole(l.Size))
	})
	return object([]string{nameConfig, nameKind, nameLayers}, word(m.Config), word(kindImage), rows)
}

// read is the manifest that a value tells. What is not there stays empty, and what is beside it is left out: either shows once the manifest is written again.
func read(v api.Value) api.Manifest {
	if wordOf(v, nameKind) == kindIndex {
		kids := things(v, nameKids, func(kid api.Value) string { return kid.S })
		return api.Manifest{Index: true, Kids: kids}
	}
	layers := things(v, nameLayers, func(l api.Value) api.Layer {
		return api.Layer{Digest: wordOf(l, nameDigest), Size: wholeOf(l, nameSize)}
	})
	return api.Manifest{Config: wordOf(v, nameConfig), Layers: layers}
}

// row is a row of what one makes of each thing of a list.
func row[T any](list []T, one func(T) api.Value) api.Value {
	return api.Value{Kind: api.VRow, Items: each(list, one)}
}

// things are what one makes of each item of a row that is a member.
func things[T any](v api.Value, name string, one func(api.Value) T) []T {
	return each(member(v, name, api.VRow).Items, one)
}

func each[T, U any](list []T, one func(T) U) []U {
	made := make([]U, len(list))
	for i, thing := range list {
		made[i] = one(thing)
	}
	return made
}

func object(names []string, items ...api.Value) api.Value {
	return api.Value{Kind: api.VObj, Items: items, Names: names}
}

func word(s string) api.Value { return api.Value{Kind: api.VWord, S: s} }

func whole(n int) api.Value { return api.Value{Kind: api.VWhole, N: n} }

func wordOf(v api.Value, name string) string { return member(v, name, api.VWord).S }

func wholeOf(v api.Value, name string) int { return member(v, name, api.VWhole).N }

// member is a value's member; it is empty, if there is none of that kind.
func member(v api.Value, name string, kind int) api.Value {
	m, _ := text.Get(v, name, kind)
	return m
}
