package clean

import (
	"slices"

	"muslin/api"
	"muslin/lines"
	"muslin/qp"
)

const (
	versionField     = "MIME-Version"
	typeField        = "Content-Type"
	encodingField    = "Content-Transfer-Encoding"
	dispositionField = "Content-Disposition"
)

// Compose writes a message of a document.
func Compose(l []api.Field, html string) (string, api.Errno) {
	s, err := lines.Write(slices.Concat(l, htmlFields()), qp.Encode(html))
	if err != api.OK {
		return "", err
	}
	// A field of these would be read in the place of those that tell of the document.
	if hasAny(l, typeField, encodingField, dispositionField) {
		return "", api.ErrArg
	}
	return s, api.OK
}

// htmlFields tell that a message is a document, and how it is written.
func htmlFields() []api.Field {
	return []api.Field{
		{Name: versionField, Value: "1.0"},
		{Name: typeField, Value: "text/html; charset=utf-8"},
		{Name: encodingField, Value: "quoted-printable"},
	}
}

// hasAny tells whether a field has one of these names.
func hasAny(l []api.Field, names ...string) bool {
	return slices.ContainsFunc(names, func(name string) bool {
		_, is := lines.Get(l, name)
		return is
	})
}
