package names

import (
	"strings"

	"linkboy/api"
)

const slash = "/" // between a space and a name

// Format is a key's text.
func Format(k api.Key) string {
	if !Key(k) {
		return ""
	}
	return k.Space + slash + k.Name
}

// Parse is a text's key.
func Parse(s string) (api.Key, error) {
	// No label has a slash, so that a second one leaves no right name, and none leaves an empty one.
	space, name, _ := strings.Cut(s, slash)
	k := api.Key{Space: space, Name: name}
	if !Key(k) {
		return api.Key{}, api.ErrName
	}
	return k, nil
}
