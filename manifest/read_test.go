package manifest_test

import (
	library "encoding/json"
	"fmt"
	"math/rand"
	"slices"
	"strings"
	"testing"

	"assay/api"
	"assay/digest"
	"assay/json"
	"assay/manifest"
	"assay/sha"
)

// desc is a descriptor, another one for each number.
func desc(i int) api.Desc {
	return api.Desc{Key: sha.Sum([]byte{byte(i), byte(i >> 8)}), Size: i}
}

// descs is so many descriptors, no two alike.
func descs(n int) []api.Desc {
	var l []api.Desc
	for i := range n {
		l = append(l, desc(i))
	}
	return l
}

// text is a descriptor's text in its shortest form.
func text(d api.Desc) string {
	return fmt.Sprintf(`{"digest":"sha256:%x","size":%d}`, d.Key[:], d.Size)
}

// list is the text of a list.
func list(l ...string) string { return "[" + strings.Join(l, ",") + "]" }

// object is the text of an object with these fields.
func object(fields ...string) string { return "{" + strings.Join(fields, ",") + "}" }

// texts is the text of a list of descriptors.
func texts(l []api.Desc) string {
	var all []string
	for _, d := range l {
		all = append(all, text(d))
	}
	return list(all...)
}

// fieldsOf is a document's fields, each of which it must have.
func fieldsOf(kind int, l []api.Desc) []string {
	if kind == api.Index {
		return []string{`"schemaVersion":2`, `"manifests":` + texts(l)}
	}
	return []string{`"schemaVersion":2`, `"config":` + text(l[0]), `"layers":` + texts(l[1:])}
}

// document is a document's text in its shortest form.
func document(kind int, l []api.Desc) string { return object(fieldsOf(kind, l)...) }

// kinds is the kinds of documents.
func kinds() []int { return []int{api.Manifest, api.Index} }

// others is the texts of values of every kind.
func others() []string {
	return []string{"null", "true", "false", "0", "1", "2", "3", "9223372036854775807", `""`, `"2"`, `"x"`, "[]", "[null]", "[2]", "[[],{}]", "{}", `{"a":1}`, text(desc(1)), texts(descs(2)), `"` + digest.Text(desc(1).Key) + `"`}
}

// read holds what Read answers.
func read(t *testing.T, s string, kind int, l []api.Desc) {
	t.Helper()
	k, got := manifest.Read([]byte(s))
	if k != kind || !slices.Equal(got, l) {
		t.Fatalf("Read of %d bytes, %.400s: %d, %d named, want %d, %d named", len(s), s, k, len(got), kind, len(l))
	}
}

// plain holds that these bytes are no document.
func plain(t *testing.T, s string) {
	t.Helper()
	read(t, s, api.Plain, nil)
}

// orders is a list in every order.
func orders(l []string) [][]string {
	if len(l) < 2 {
		return [][]string{l}
	}
	var all [][]string
	for i := range l {
		for _, rest := range orders(slices.Concat(l[:i], l[i+1:])) {
			all = append(all, append([]string{l[i]}, rest...))
		}
	}
	return all
}

// P16.1: the chapter's examples.
func TestReadsExamples(t *testing.T) {
	d := api.Desc{Key: sha.Sum(nil)}
	name := digest.Text(d.Key)
	if name != "sha256:e3b0c44298fc1c149afbf4c8996fb92427ae41e4649b934ca495991b7852b855" {
		t.Fatal(name)
	}
	form := `{"layers":[],"schemaVersion":%s,"x":[null],"config":{"digest":"%s","y":{}%s}%s}`
	good := fmt.Sprintf(form, "2", name, `,"size":0`, "")
	read(t, `{"schemaVersion":2,"manifests":[]}`, api.Index, nil)
	read(t, `{"layers":[],"schemaVersion":2,"x":[null],"config":{"size":0,"digest":"`+name+`","y":{}}}`, api.Manifest, []api.Desc{d})
	read(t, good, api.Manifest, []api.Desc{d})
	read(t, good+" \t\r\n", api.Manifest, []api.Desc{d})
	plain(t, fmt.Sprintf(form, "1", name, `,"size":0`, ""))
	plain(t, fmt.Sprintf(form, `"2"`, name, `,"size":0`, ""))
	plain(t, fmt.Sprintf(form, "2", name, "", ""))
	plain(t, fmt.Sprintf(form, "2", name, `,"size":-1`, ""))
	plain(t, fmt.Sprintf(form, "2", strings.ToUpper(name), `,"size":0`, ""))
	plain(t, fmt.Sprintf(form, "2", name, `,"size":0`, `,"manifests":[]`))
	plain(t, "[]")
	plain(t, "")
	for _, behind := range []string{"x", "]", "}", "0", "{}", "\x00", "\v", "\u00a0"} {
		plain(t, good+behind)
		plain(t, `{"schemaVersion":2,"manifests":[]}`+behind)
	}
}

// P16.1: what is named, in its order, the config ahead of the layers wherever the fields stand.
func TestFieldsInAnyOrder(t *testing.T) {
	for _, kind := range kinds() {
		for _, n := range []int{1, 2, 3, 9} {
			l := descs(n)
			fields := append(fieldsOf(kind, l), `"mediaType":"x"`, `"annotations":{"schemaVersion":1,"size":"y"}`)
			for _, order := range orders(fields) {
				read(t, object(order...), kind, l)
			}
			slices.Reverse(l)
			for _, order := range orders(fieldsOf(kind, l)) {
				read(t, object(order...), kind, l)
			}
		}
	}
	for _, order := range orders([]string{`"schemaVersion":2`, `"manifests":[]`}) {
		read(t, object(order...), api.Index, nil)
	}
}

// P16.1: other fields, of any kind, ahead of, between and behind those that are asked for.
func TestOtherFields(t *testing.T) {
	names := []string{"x", "", "schemaversion", "SchemaVersion", "Layers", "LAYERS", "layer", "manifest", "Manifests", "configs", "Config", "digest", "size", "layers ", " manifests", "layers\\u0000", "m\u0430nifests"}
	for _, kind := range kinds() {
		fields := fieldsOf(kind, descs(3))
		extra := names
		if kind == api.Index {
			extra = append(slices.Clone(names), "config") // an index's may be any
		}
		for _, name := range extra {
			for _, value := range others() {
				for i := range len(fields) + 1 {
					read(t, object(slices.Insert(slices.Clone(fields), i, `"`+name+`":`+value)...), kind, descs(3))
				}
			}
		}
		many := slices.Clone(fields)
		for i := range 40 {
			many = slices.Insert(many, i%len(many), fmt.Sprintf(`"x%d":%s`, i, others()[i%len(others())]))
		}
		read(t, object(many...), kind, descs(3))
	}
}

// spread is a text with blanks ahead of, between and behind its tokens; it has no text with a sign of these in it but digests.
func spread(s, blanks string) string {
	for _, sign := range []string{"{", "}", "[", "]", ","} {
		s = strings.ReplaceAll(s, sign, blanks+sign+blanks)
	}
	return strings.ReplaceAll(s, `":`, `"`+blanks+":"+blanks)
}

// P16.1: blanks change nothing.
func TestBlanks(t *testing.T) {
	for _, kind := range kinds() {
		for _, blanks := range []string{" ", "\n", "\t", "\r", " \r\n\t "} {
			read(t, spread(document(kind, descs(4)), blanks), kind, descs(4))
		}
		for _, blanks := range []string{"\v", "\f", "\x00", "\u00a0", "\ufeff", "/**/"} {
			plain(t, spread(document(kind, descs(4)), blanks))
			plain(t, blanks+document(kind, descs(4)))
			plain(t, document(kind, descs(4))+blanks)
		}
	}
}

// escaped is a text with some of its letters and digits written by escapes.
func escaped(s string, which func(i int) bool) string {
	var w strings.Builder
	for i, r := range s {
		if which(i) {
			fmt.Fprintf(&w, `\u%04x`, r)
		} else {
			w.WriteRune(r)
		}
	}
	return w.String()
}

// P16.1: names of fields and texts are what their content means.
func TestEscapes(t *testing.T) {
	d := desc(7)
	names := []string{"schemaVersion", "config", "layers", "manifests", "digest", "size", digest.Text(d.Key)}
	for _, which := range []func(int) bool{
		func(i int) bool { return i == 0 },
		func(i int) bool { return i%2 == 1 },
		func(i int) bool { return i > 1 && i < 5 },
		func(int) bool { return true },
	} {
		for _, kind := range kinds() {
			plainly := document(kind, []api.Desc{d, d})
			all := plainly
			for _, name := range names {
				if !strings.Contains(plainly, name) {
					continue
				}
				by := escaped(name, which)
				read(t, strings.ReplaceAll(plainly, name, by), kind, []api.Desc{d, d})
				plain(t, strings.ReplaceAll(plainly, name, strings.ReplaceAll(by, `\u00`, `\u01`)))
				all = strings.ReplaceAll(all, `"`+name+`"`, `"`+by+`"`)
			}
			read(t, all, kind, []api.Desc{d, d})
			// The other kind's list, by an escape.
			more := map[int]string{api.Manifest: "manifests", api.Index: "layers"}[kind]
			plain(t, plainly[:len(plainly)-1]+`,"`+escaped(more, which)+`":[]}`)
			// A field twice, once by an escape.
			plain(t, plainly[:len(plainly)-1]+`,"`+escaped("schemaVersion", which)+`":2}`)
		}
	}
}

// P16.1: each field left out, or twice, or of another kind.
func TestFieldsThatAreWrong(t *testing.T) {
	for _, kind := range kinds() {
		for _, n := range []int{1, 3} {
			l := descs(n)
			fields := fieldsOf(kind, l)
			for i, field := range fields {
				plain(t, object(slices.Delete(slices.Clone(fields), i, i+1)...))
				for j := range len(fields) + 1 {
					plain(t, object(slices.Insert(slices.Clone(fields), j, field)...))
				}
				name, _, _ := strings.Cut(field, ":")
				for _, value := range others() {
					wrong := slices.Clone(fields)
					wrong[i] = name + ":" + value
					k, named := judged(object(wrong...))
					read(t, object(wrong...), k, named)
					// Only the field's own kind may stand there.
					own := map[string][]string{`"schemaVersion"`: {"2"}, `"config"`: {text(desc(1))}, `"layers"`: {"[]", texts(descs(2))}, `"manifests"`: {"[]", texts(descs(2))}}[name]
					if (k == kind) != slices.Contains(own, value) || k != kind && k != api.Plain {
						t.Fatal(name, value, k)
					}
				}
			}
		}
	}
	for _, value := range others() {
		plain(t, value)
		plain(t, list(value))
		plain(t, list(document(api.Index, descs(1)), value))
		plain(t, object(`"a":`+value))
		plain(t, object(`"schemaVersion":2`, `"a":`+value))
		plain(t, object(`"schemaVersion":2`, `"config":`+value))
	}
	plain(t, list(document(api.Manifest, descs(1))))
	plain(t, object(`"x":`+document(api.Manifest, descs(1))))
	plain(t, `"`+strings.ReplaceAll(document(api.Index, descs(1)), `"`, `\"`)+`"`)
	plain(t, "{}")
	plain(t, `{"schemaVersion":2}`)
}

// P16.1: schemaVersion is the number 2 alone.
func TestVersions(t *testing.T) {
	for _, kind := range kinds() {
		good := document(kind, descs(2))
		for _, value := range []string{"0", "1", "3", "4", "20", "22", "258", "4294967298", "9223372036854775807", "02", "2.0", "2e0", "-2", "+2", "0x2", "", "2 2", "18446744073709551618", `"2"`, "[2]", "null", "true"} {
			plain(t, strings.Replace(good, `:2,`, `:`+value+`,`, 1))
		}
		read(t, strings.Replace(good, `:2,`, ": 2 ,", 1), kind, descs(2))
	}
}

// P16.1: both lists make neither kind, whatever they are and in whatever order.
func TestBothLists(t *testing.T) {
	for _, kind := range kinds() {
		more := map[int]string{api.Manifest: `"manifests":`, api.Index: `"layers":`}[kind]
		for _, value := range others() {
			fields := append(fieldsOf(kind, descs(2)), more+value)
			for _, order := range orders(fields) {
				plain(t, object(order...))
			}
		}
		for _, value := range others() {
			for _, config := range []string{text(desc(3)), "null"} {
				both := []string{`"schemaVersion":2`, `"config":` + config, `"layers":` + value, `"manifests":` + value}
				for _, order := range orders(both) {
					plain(t, object(order...))
				}
			}
		}
	}
}

// badDigests is texts that are no digest's, as they stand in JSON.
func badDigests() []string {
	s := digest.Text(desc(1).Key)
	l := []string{"", "sha256:", "sha256", s[7:], s[:70], s + "0", s + " ", " " + s, strings.ToUpper(s), "SHA256:" + s[7:], "Sha256:" + s[7:], "sha256:" + strings.ToUpper(s[7:]), "sha512:" + s[7:], "sha256-" + s[7:], "sha256 " + s[7:], "sha256:" + s, s + `\u0000`, s[:69] + `\n`}
	for _, i := range []int{7, 8, 30, 69, 70} {
		for _, sign := range []string{"A", "F", "g", "G", "-", " ", "x", ".", ":", "/", "`", "@", `\u0000`} {
			l = append(l, s[:i]+sign+s[i+1:])
		}
		l = append(l, s[:i]+"\u00e9"+s[i+1:], s[:i-1]+"\u00e9"+s[i+1:])
	}
	return l
}

// badDescs is texts of values that are no descriptors.
func badDescs() []string {
	name := `"digest":"` + digest.Text(desc(1).Key) + `"`
	l := []string{"null", "true", "0", "7", `""`, `"` + digest.Text(desc(1).Key) + `"`, "[]", "{}", list(name[9:], "7"), list(text(desc(1))), object(name), object(`"size":7`), object(`"x":` + text(desc(1))), object(`"Digest"`+name[8:], `"size":7`), object(name, `"Size":7`), object(name, `"sizes":7`), object(`"digest ":`+name[9:], `"size":7`)}
	for _, s := range badDigests() {
		l = append(l, object(`"digest":"`+s+`"`, `"size":7`), object(`"size":7`, `"digest":"`+s+`"`))
	}
	for _, v := range []string{"null", "true", "false", "0", "7", "[]", "{}", `[` + name[9:] + `]`, `{` + name + `}`} {
		l = append(l, object(`"digest":`+v, `"size":7`))
	}
	for _, v := range []string{"null", "true", "false", `""`, `"7"`, "[]", "[7]", "{}", `{"size":7}`, "2147483648", "2147483649", "4294967295", "4294967296", "4294967303", "9223372036854775807"} {
		l = append(l, object(name, `"size":`+v), object(`"size":`+v, name))
	}
	return l
}

// P16.1: one that is no descriptor, alone and among good ones, at every place.
func TestWrongDescriptors(t *testing.T) {
	for _, bad := range badDescs() {
		if _, e, _ := json.Parse([]byte(bad)); e != api.OK {
			t.Fatal(bad, e) // it must be the chapter's own words that refuse it
		}
		for _, n := range []int{1, 2, 5} {
			for i := range n {
				var l []string
				for j := range n {
					l = append(l, text(desc(j)))
				}
				l[i] = bad
				plain(t, object(`"schemaVersion":2`, `"manifests":`+list(l...)))
				plain(t, object(`"schemaVersion":2`, `"config":`+l[0], `"layers":`+list(l[1:]...)))
				plain(t, object(`"layers":`+list(l[1:]...), `"config":`+l[0], `"schemaVersion":2`))
			}
		}
	}
	for _, bad := range badDescs()[:20] {
		for i := range 32 {
			l := strings.Split(strings.Trim(texts(descs(32)), "[]"), "},")
			for j := range l {
				l[j] = strings.TrimSuffix(l[j], "}") + "}"
			}
			l[i] = bad
			plain(t, object(`"schemaVersion":2`, `"manifests":`+list(l...)))
			plain(t, object(`"schemaVersion":2`, `"config":`+l[0], `"layers":`+list(l[1:]...)))
		}
	}
}

// P16.1: the edges of a size, and other fields of a descriptor.
func TestDescriptors(t *testing.T) {
	name := `"digest":"` + digest.Text(desc(1).Key) + `"`
	for _, size := range []int{0, 1, 9, 10, 4096, 4097, 65536, 2147483646, 2147483647} {
		d := api.Desc{Key: desc(1).Key, Size: size}
		bare := []string{name, fmt.Sprintf(`"size":%d`, size)}
		all := []string{object(bare...), object(bare[1], bare[0])}
		for _, v := range others() {
			for _, order := range orders(append(slices.Clone(bare), `"mediaType":`+v)) {
				all = append(all, object(order...))
			}
			all = append(all, object(`"":`+v, bare[1], `"Size":`+v, bare[0], `"DIGEST":`+v, `"config":`+v, `"layers":`+v, `"manifests":`+v))
		}
		for _, s := range all {
			read(t, object(`"schemaVersion":2`, `"manifests":[`+s+`]`), api.Index, []api.Desc{d})
			read(t, object(`"schemaVersion":2`, `"manifests":`+list(text(desc(5)), s, s)), api.Index, []api.Desc{desc(5), d, d})
			read(t, object(`"schemaVersion":2`, `"config":`+s, `"layers":[]`), api.Manifest, []api.Desc{d})
			read(t, object(`"schemaVersion":2`, `"layers":`+list(s, text(desc(5))), `"config":`+text(desc(6))), api.Manifest, []api.Desc{desc(6), d, desc(5)})
		}
	}
	for _, key := range []api.Digest{{}, {0: 0xFF}, {31: 1}, {15: 0xAB}} {
		d := api.Desc{Key: key, Size: 3}
		for _, kind := range kinds() {
			read(t, document(kind, []api.Desc{d, desc(1), d}), kind, []api.Desc{d, desc(1), d})
		}
	}
}

// P16.1: a size that chapter 14 refuses is none either.
func TestSizesThatAreNoNumbers(t *testing.T) {
	for _, size := range []string{"-1", "-0", "+1", "01", "1.0", "1e3", "9223372036854775808", "", "0x10", "1 1", "NaN"} {
		s := `{"digest":"` + digest.Text(desc(1).Key) + `","size":` + size + `}`
		plain(t, object(`"schemaVersion":2`, `"manifests":[`+s+`]`))
		plain(t, object(`"schemaVersion":2`, `"config":`+s, `"layers":[]`))
		plain(t, object(`"schemaVersion":2`, `"config":`+text(desc(1)), `"layers":[`+s+`]`))
	}
}

// P16.1: the same descriptor is named as often as it stands there.
func TestSameDescriptors(t *testing.T) {
	for _, kind := range kinds() {
		for n := 1; n <= 32; n++ {
			l := slices.Repeat([]api.Desc{desc(9)}, n)
			read(t, document(kind, l), kind, l)
		}
		one, other := desc(1), api.Desc{Key: desc(1).Key, Size: 2}
		l := []api.Desc{other, one, one, other, one}
		read(t, document(kind, l), kind, l)
	}
}

// P16.1: as many as MaxDescs, and more.
func TestHowMany(t *testing.T) {
	for _, kind := range kinds() {
		for n := 1; n <= 42; n++ {
			s := document(kind, descs(n))
			if len(s) > 4096 {
				t.Fatal(n, len(s))
			}
			if n <= 32 {
				read(t, s, kind, descs(n))
			} else {
				plain(t, s)
			}
		}
	}
	read(t, object(`"schemaVersion":2`, `"layers":`+texts(descs(31)), `"config":`+text(desc(99))), api.Manifest, append([]api.Desc{desc(99)}, descs(31)...))
	plain(t, object(`"schemaVersion":2`, `"layers":`+texts(descs(32)), `"config":`+text(desc(99))))
	plain(t, object(`"schemaVersion":2`, `"config":`+text(desc(99)), `"layers":`+texts(slices.Repeat(descs(1), 32))))
	// Others of an index's fields name nothing.
	read(t, object(`"schemaVersion":2`, `"config":`+text(desc(99)), `"manifests":`+texts(descs(32))), api.Index, descs(32))
	// One that is no descriptor behind too many of them.
	plain(t, object(`"schemaVersion":2`, `"manifests":`+strings.TrimSuffix(texts(descs(33)), "]")+",null]"))
}

// P16.1: just MaxBlob bytes, and one more.
func TestLongest(t *testing.T) {
	for _, kind := range kinds() {
		for _, n := range []int{1, 5, 32} {
			s := document(kind, descs(n))
			left := 4096 - len(s)
			for _, longest := range []string{
				s + strings.Repeat(" ", left),
				strings.Repeat("\n", left) + s,
				s[:1] + strings.Repeat("\t", left) + s[1:],
				`{"x":"` + strings.Repeat("y", left-7) + `",` + s[1:],
				s[:len(s)-1] + `,"` + strings.Repeat("z", left-5) + `":0}`,
			} {
				if len(longest) != 4096 {
					t.Fatal(len(longest))
				}
				read(t, longest, kind, descs(n))
				plain(t, longest+" ")
				plain(t, " "+longest)
			}
		}
	}
	for _, b := range []string{strings.Repeat(" ", 4096), strings.Repeat("\x00", 4096), strings.Repeat("[", 4096), strings.Repeat("a", 1<<20), strings.Repeat(" ", 1<<20)} {
		plain(t, b)
	}
}

// P16.1: what chapter 15 refuses is plain.
func TestWhatIsNoJSON(t *testing.T) {
	for _, kind := range kinds() {
		s := document(kind, descs(3))
		for i := range s {
			plain(t, s[:i])
			if i > 0 {
				plain(t, s[i:])
			}
		}
		for _, bad := range []string{"'", "\x00", "\xff", "nul", `"`, `"\x"`, `"\ud800"`, "01", "[", "]", ",,", ":", "//"} {
			plain(t, s+bad)
			plain(t, bad+s)
			plain(t, s[:len(s)-1]+`,"x":`+bad+`}`)
			plain(t, s[:len(s)-1]+bad+`}`)
		}
		plain(t, s+s)
		plain(t, s+"\n"+s)
		plain(t, s[:len(s)-1]+",}")
		plain(t, s[:len(s)-1]+`,"x":0,"x":0}`)
		plain(t, s[:len(s)-1]+`,"x":{"y":0,"y":0}}`)
		plain(t, strings.Replace(s, `"size"`, `"size":0,"size"`, 1))
		plain(t, strings.Replace(s, `"digest"`, `"digest":"","digest"`, 1))
		plain(t, strings.ReplaceAll(s, `"`, `'`))
	}
}

// P16.1: nested as deeply as chapter 15 takes it, in a document and in a descriptor.
func TestNested(t *testing.T) {
	deep := func(n int) string { return strings.Repeat("[", n) + strings.Repeat("]", n) }
	for _, kind := range kinds() {
		l := descs(2)
		for n := range 9 {
			field := "0"
			if n > 0 {
				field = deep(n)
			}
			s := strings.Replace(document(kind, l), "{", `{"x":`+field+",", 1)
			if n <= 5 {
				read(t, s, kind, l)
			} else {
				plain(t, s)
			}
			// A list's descriptor stands in the list, and that in the document.
			s = strings.Replace(document(kind, l), "}]", `,"x":`+field+"}]", 1)
			if n <= 3 {
				read(t, s, kind, l)
			} else {
				plain(t, s)
			}
		}
	}
	for n, kind := range map[int]int{4: api.Manifest, 5: api.Plain} {
		s := `{"schemaVersion":2,"layers":[],"config":` + strings.TrimSuffix(text(desc(1)), "}") + `,"x":` + deep(n) + "}}"
		if kind == api.Plain {
			plain(t, s)
		} else {
			read(t, s, kind, descs(2)[1:])
		}
	}
}

// judged says what Read answers by the library's reading of what chapter 15 takes.
func judged(s string) (int, []api.Desc) {
	if _, e, _ := json.Parse([]byte(s)); e != api.OK {
		return api.Plain, nil
	}
	var whole any
	r := library.NewDecoder(strings.NewReader(s))
	r.UseNumber()
	if r.Decode(&whole) != nil {
		panic(s)
	}
	o, _ := whole.(map[string]any)
	if o["schemaVersion"] != library.Number("2") {
		return api.Plain, nil
	}
	layers, hasLayers := o["layers"]
	manifests, hasManifests := o["manifests"]
	if hasLayers && hasManifests {
		return api.Plain, nil
	}
	kind, from := api.Index, manifests
	var parts []any
	if hasLayers {
		kind, from = api.Manifest, layers
		parts = append(parts, o["config"])
	}
	rest, ok := from.([]any)
	if !ok || len(parts)+len(rest) > 32 {
		return api.Plain, nil
	}
	var named []api.Desc
	for _, part := range append(parts, rest...) {
		d, ok := judgedDesc(part)
		if !ok {
			return api.Plain, nil
		}
		named = append(named, d)
	}
	return kind, named
}

// judgedDesc is the descriptor that the library's reading of a value is.
func judgedDesc(v any) (api.Desc, bool) {
	o, _ := v.(map[string]any)
	s, ok := o["digest"].(string)
	key, e := digest.Parse(s)
	number, whole := o["size"].(library.Number)
	size, err := number.Int64()
	return api.Desc{Key: key, Size: int(size)}, ok && whole && e == api.OK && err == nil && size < 1<<31
}

// part is one of these by chance.
func part(r *rand.Rand, l ...string) string { return l[r.Intn(len(l))] }

// anyDesc is the text of a descriptor by chance; seldom one of those that are none.
func anyDesc(r *rand.Rand, odds int, bad []string) string {
	if r.Intn(odds) == 0 {
		return part(r, bad...)
	}
	d := desc(r.Intn(50))
	fields := []string{`"digest":"` + digest.Text(d.Key) + `"`, fmt.Sprintf(`"size":%d`, d.Size)}
	if r.Intn(4) == 0 {
		fields = append(fields, `"x":`+part(r, others()...))
	}
	r.Shuffle(len(fields), func(i, j int) { fields[i], fields[j] = fields[j], fields[i] })
	return object(fields...)
}

// anyDocument is a document by chance; seldom what is none.
func anyDocument(r *rand.Rand) string {
	bad := badDescs()
	odds := []int{5, 50, 1 << 30}[r.Intn(3)]
	var l []string
	for range []int{r.Intn(4), r.Intn(34)}[r.Intn(2)] {
		l = append(l, anyDesc(r, odds, bad))
	}
	fields := []string{`"schemaVersion":2`}
	if r.Intn(2) == 0 {
		fields = append(fields, `"manifests":`+list(l...))
	} else {
		fields = append(fields, `"config":`+anyDesc(r, odds, bad), `"layers":`+list(l...))
	}
	for i := range fields {
		name, _, _ := strings.Cut(fields[i], ":")
		switch r.Intn(odds) {
		case 0:
			fields[i] = name + ":" + part(r, others()...)
		case 1:
			fields[i] = `"x":0`
		}
	}
	if r.Intn(3) == 0 {
		fields = append(fields, `"`+part(r, "y", "config", "layers", "manifests")+`":`+part(r, others()...))
	}
	r.Shuffle(len(fields), func(i, j int) { fields[i], fields[j] = fields[j], fields[i] })
	return object(fields...)
}

// spoiled is a text with a byte or two that are others.
func spoiled(r *rand.Rand, s string) string {
	b := []byte(s)
	for range 1 + r.Intn(2) {
		i := r.Intn(len(b))
		switch r.Intn(3) {
		case 0:
			signs := `{}[]:," 0123456789abcdefgx\` + "\n\x00\xff"
			b[i] = signs[r.Intn(len(signs))]
		case 1:
			b = slices.Delete(b, i, i+1)
		case 2:
			signs := ` {}[]:,"0129aA`
			b = slices.Insert(b, i, signs[r.Intn(len(signs))])
		}
	}
	return string(b)
}

// P16.1: documents by chance, and such with a byte or two that are others, against the library's reading.
func TestReadsByChance(t *testing.T) {
	r := rand.New(rand.NewSource(16))
	count := map[int]int{}
	for range 20000 {
		s := anyDocument(r)
		kind, l := judged(s)
		read(t, s, kind, l)
		count[kind]++
		s = spoiled(r, s)
		kind, l = judged(s)
		read(t, s, kind, l)
		count[10+kind]++
	}
	for _, kind := range []int{api.Plain, api.Manifest, api.Index} {
		if count[kind] < 1000 || count[10+kind] < 50 {
			t.Error(kind, count)
		}
	}
}

// P16.1, P1: any bytes.
func TestReadsAnyBytes(t *testing.T) {
	r := rand.New(rand.NewSource(17))
	for a := range 256 {
		plain(t, string([]byte{byte(a)}))
		for b := range 256 {
			plain(t, string([]byte{byte(a), byte(b)}))
		}
	}
	for range 2000 {
		b := make([]byte, r.Intn(5000))
		r.Read(b)
		plain(t, string(b))
	}
	kind, l := manifest.Read(nil)
	if kind != api.Plain || len(l) > 0 {
		t.Error(kind, l)
	}
}
