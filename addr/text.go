package addr

import (
	"strconv"
	"strings"

	"linkboy/api"
)

const (
	groupCount = 8
	maxFigures = 4    // of a group
	point      = "."  // between numbers
	colon      = ":"  // between groups
	gap        = "::" // in place of groups of noughts
)

// Parse is a text's address.
func Parse(s string) (api.Addr, error) {
	parse := parseFour
	if strings.Contains(s, colon) {
		parse = parseSix
	}
	a, ok := parse(s)
	if !ok {
		return api.Addr{}, api.ErrForm
	}
	return a, nil
}

// Format is an address's text.
func Format(a api.Addr) string {
	if !Right(a) {
		return ""
	}
	if a.Six {
		return formatSix(groupsOf(a))
	}
	numbers := make([]string, fourBytes)
	for i := range numbers {
		numbers[i] = strconv.Itoa(int(a.B[i]))
	}
	return strings.Join(numbers, point)
}

// parseFour is the address of four numbers, if they are that.
func parseFour(s string) (api.Addr, bool) {
	parts := strings.Split(s, point)
	if len(parts) != fourBytes {
		return api.Addr{}, false
	}
	a := api.Addr{}
	for i, part := range parts {
		n, err := strconv.ParseUint(part, 10, 8)
		if err != nil || len(part) > 1 && part[0] == '0' {
			return api.Addr{}, false
		}
		a.B[i] = byte(n)
	}
	return a, true
}

// parseSix is the address of eight groups, if they are that.
func parseSix(s string) (api.Addr, bool) {
	// A second gap, or a colon too many, is an empty group of the rest, and no empty group is right.
	start, rest, gapped := strings.Cut(s, gap)
	head, headOk := parseGroups(start)
	tail, tailOk := parseGroups(rest)
	if !headOk || !tailOk {
		return api.Addr{}, false
	}
	missing := groupCount - len(head) - len(tail)
	if gapped && missing < 1 || !gapped && missing != 0 {
		return api.Addr{}, false
	}
	groups := [groupCount]uint16{}
	copy(groups[:], head)
	copy(groups[len(head)+missing:], tail)
	return addressOf(groups), true
}

// parseGroups is the groups of a text, none of the empty one, if they are groups.
func parseGroups(s string) ([]uint16, bool) {
	if s == "" {
		return nil, true
	}
	parts := strings.Split(s, colon)
	groups := make([]uint16, len(parts))
	for i, part := range parts {
		n, err := strconv.ParseUint(part, 16, 16)
		if err != nil || len(part) > maxFigures {
			return nil, false
		}
		groups[i] = uint16(n)
	}
	return groups, true
}

// formatSix is the text of groups, with a gap if a row of noughts is long enough.
func formatSix(groups [groupCount]uint16) string {
	from, to := noughts(groups)
	if from == to {
		return formatGroups(groups[:])
	}
	return formatGroups(groups[:from]) + gap + formatGroups(groups[to:])
}

// formatGroups is the text of groups, none of them left out.
func formatGroups(groups []uint16) string {
	parts := make([]string, len(groups))
	for i, group := range groups {
		parts[i] = strconv.FormatUint(uint64(group), 16)
	}
	return strings.Join(parts, colon)
}

// noughts is where the longest row of two or more noughts begins, and where it has ended; from is to, if there is none.
func noughts(groups [groupCount]uint16) (from, to int) {
	length := 0
	for i, group := range groups {
		if group != 0 {
			length = 0
			continue
		}
		length++
		if length >= 2 && length > to-from {
			from, to = i+1-length, i+1
		}
	}
	return from, to
}

// groupsOf is the groups of an address of sixteen bytes.
func groupsOf(a api.Addr) [groupCount]uint16 {
	groups := [groupCount]uint16{}
	for i := range groups {
		groups[i] = uint16(a.B[2*i])<<8 | uint16(a.B[2*i+1])
	}
	return groups
}

// addressOf is the address of groups.
func addressOf(groups [groupCount]uint16) api.Addr {
	b := [sixBytes]byte{}
	for i, group := range groups {
		b[2*i], b[2*i+1] = byte(group>>8), byte(group)
	}
	return Six(b)
}
