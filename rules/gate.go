package rules

import (
	"strconv"
	"strings"

	"muslin/api"
	"muslin/ascii"
	"muslin/attach"
	"muslin/css"
	"muslin/link"
)

const (
	attached  = "att:" // a file's number stands behind it
	schemeEnd = ":"
	pictures  = "image/"
)

const (
	mostDigits   = 4
	mostLanguage = 20 // bytes
	languageMark = "-"
)

// gate lets values through, by a policy and the files that came with a message.
type gate struct {
	policy api.Policy
	files  []api.Attached
}

// judges tell, by an attribute's name, what becomes of its value; false: it is not let through.
func (g gate) judges() map[string]func(value string) (string, bool) {
	return map[string]func(value string) (string, bool){
		"href":   g.href,
		"src":    g.src,
		"style":  g.style,
		"width":  g.number,
		"height": g.number,
		"start":  g.number,
		"value":  g.number,
		"dir":    g.direction,
		"lang":   g.language,
		"title":  g.words,
		"alt":    g.words,
	}
}

func (gate) href(value string) (string, bool) {
	kind := link.Kind(value)
	return only(kind == link.Web || kind == link.Safe || kind == link.Mail, link.Clean(value))
}

func (g gate) src(value string) (string, bool) {
	address := link.Clean(value)
	switch link.Kind(value) {
	case link.Inside:
		return g.byId(address)
	case link.Safe:
		return only(g.policy.Remote, address)
	}
	return g.byNumber(address)
}

// byId is the picture that an address tells by an id.
func (g gate) byId(address string) (string, bool) {
	_, id, _ := strings.Cut(address, schemeEnd)
	at, is := attach.Find(g.files, id)
	if !is {
		return "", false
	}
	return g.picture(at)
}

// byNumber is the picture that an address tells by its number, if that is written as picture does it.
func (g gate) byNumber(address string) (string, bool) {
	at, err := strconv.ParseUint(strings.TrimPrefix(address, attached), 10, 31)
	if err != nil {
		return "", false
	}
	told, is := g.picture(int(at))
	return only(is && told == address, address)
}

// picture is the address of the file of a number; false: there is none, or it is no picture.
func (g gate) picture(at int) (string, bool) {
	if at >= len(g.files) || !strings.HasPrefix(g.files[at].Kind, pictures) {
		return "", false
	}
	return attached + strconv.Itoa(at), true
}

func (g gate) style(value string) (string, bool) {
	clean := css.Clean(value)
	return only(g.policy.Styles && clean != "", clean)
}

func (gate) number(value string) (string, bool) {
	return only(value != "" && len(value) <= mostDigits && ascii.Within(value, '0', '9'), value)
}

func (gate) direction(value string) (string, bool) {
	return only(value == "ltr" || value == "rtl" || value == "auto", value)
}

func (gate) language(value string) (string, bool) {
	return only(value != "" && len(value) <= mostLanguage && ascii.AllPlain(value, languageMark), value)
}

// words are shown as they are, and so nothing in them does anything.
func (gate) words(value string) (string, bool) {
	return value, true
}

// only is a value that is let through if that is so.
func only(so bool, value string) (string, bool) {
	if !so {
		return "", false
	}
	return value, true
}
