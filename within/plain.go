package within

import (
	"strings"

	"rubric/api"
)

// Plain tells the text of parts without their marks, in new memory.
func Plain(parts Parts) string {
	var out strings.Builder
	writePlain(&out, parts)
	return out.String()
}

func writePlain(out *strings.Builder, parts Parts) {
	for m := parts.First(); m != nil; m = m.Behind() {
		switch p := m.Value; p.Kind {
		case api.Text, api.Span:
			out.WriteString(p.Text)
		case api.Soft, api.Break:
			out.WriteByte(' ')
		default:
			writePlain(out, p.Parts)
		}
	}
}
