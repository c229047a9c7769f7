package manifest

import (
	"assay/api"
	"assay/digest"
	"assay/json"
)

// gatherer takes in the descriptor that a value is, and tells whether it is one.
type gatherer func(v json.Value) bool

// Read is what kind of document some bytes are, and what it names.
func Read(b []byte) (int, []api.Desc) {
	v, e, _ := json.Parse(b)
	if e != api.OK {
		return api.Plain, nil
	}
	var named []api.Desc
	gather := func(v json.Value) bool {
		d, ok := descriptor(v)
		named = append(named, d)
		return ok && len(named) <= api.MaxDescs
	}
	kind := kindOf(v)
	if !gatherAll(kind, v, gather) {
		return api.Plain, nil
	}
	return kind, named
}

// kindOf is the one kind of document that a value may be, by its version and by which of the two lists it has.
func kindOf(v json.Value) int {
	n, _ := number(v, versionField)
	_, layers := json.Field(v, layersField)
	_, manifests := json.Field(v, manifestsField)
	switch {
	case n != version, layers == manifests:
		return api.Plain
	case layers:
		return api.Manifest
	}
	return api.Index
}

// gatherAll hands all that a document of that kind names to gather, and tells whether it took them; false, if there is no such document.
func gatherAll(kind int, v json.Value, gather gatherer) bool {
	switch kind {
	case api.Manifest:
		return gatherField(v, configField, gather) && gatherList(v, layersField, gather)
	case api.Index:
		return gatherList(v, manifestsField, gather)
	}
	return false
}

// gatherField hands one field to gather.
func gatherField(v json.Value, key string, gather gatherer) bool {
	x, ok := json.Field(v, key)
	return ok && gather(x)
}

// gatherList hands the elements of a field that is a list to gather, till it takes one no more.
func gatherList(v json.Value, key string, gather gatherer) bool {
	x, _ := json.Field(v, key)
	l, ok := x.(json.List)
	for _, element := range l {
		if !gather(element) {
			return false
		}
	}
	return ok
}

// descriptor is the descriptor that a value is, if it is one.
func descriptor(v json.Value) (api.Desc, bool) {
	size, ok := number(v, sizeField)
	if !ok || !isSize(size) {
		return api.Desc{}, false
	}
	x, _ := json.Field(v, digestField)
	text, ok := x.(json.Str)
	key, e := digest.Parse(string(text))
	if !ok || e != api.OK {
		return api.Desc{}, false
	}
	return api.Desc{Key: key, Size: size}, true
}

// number is a field that is a number.
func number(v json.Value, key string) (int, bool) {
	x, _ := json.Field(v, key)
	n, ok := x.(json.Num)
	return int(n), ok
}
