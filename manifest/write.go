package manifest

import (
	"slices"

	"assay/api"
	"assay/digest"
	"assay/json"
)

// Write is a document's bytes.
func Write(kind int, l []api.Desc) ([]byte, api.Errno) {
	if e := fault(kind, l); e != api.OK {
		return nil, e
	}
	text, e := json.Print(document(kind, l))
	return []byte(text), e
}

// fault is why there is no document of that kind that names l, or OK.
func fault(kind int, l []api.Desc) api.Errno {
	switch {
	case kind != api.Manifest && kind != api.Index:
		return api.ErrArg
	case kind == api.Manifest && len(l) == 0: // its config is one
		return api.ErrArg
	case len(l) > api.MaxDescs:
		return api.ErrLong
	case slices.ContainsFunc(l, isOutsized):
		return api.ErrRange
	}
	return api.OK
}

func isOutsized(d api.Desc) bool { return !isSize(d.Size) }

// document is the value of a document in which there is no fault.
func document(kind int, l []api.Desc) json.Value {
	if kind == api.Index {
		return json.Object{
			Keys: []string{versionField, manifestsField},
			Vals: []json.Value{json.Num(version), values(l)},
		}
	}
	return json.Object{
		Keys: []string{versionField, configField, layersField},
		Vals: []json.Value{json.Num(version), value(l[0]), values(l[1:])},
	}
}

// values is descriptors as a list.
func values(l []api.Desc) json.List {
	var all json.List
	for _, d := range l {
		all = append(all, value(d))
	}
	return all
}

// value is a descriptor as an object.
func value(d api.Desc) json.Value {
	return json.Object{
		Keys: []string{digestField, sizeField},
		Vals: []json.Value{json.Str(digest.Text(d.Key)), json.Num(d.Size)},
	}
}
