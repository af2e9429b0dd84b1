// Package strider: an assembler whose jumps are as short as can be, and its way back: see DOC.md.
package strider

import (
	"strider/api"
	"strider/back"
	"strider/layout"
	"strider/read"
)

// Assemble makes an image of a source (P2).
func Assemble(source string) (api.Image, int, api.Errno) {
	plan, line, errno := layOut(source)
	if errno != api.OK {
		return api.Image{}, line, errno
	}
	return plan.Image(), 0, api.OK
}

// Names tells a source's labels (P5).
func Names(source string) ([]api.Name, int, api.Errno) {
	plan, line, errno := layOut(source)
	if errno != api.OK {
		return nil, line, errno
	}
	return plan.Names(), 0, api.OK
}

// Disassemble makes a source of an image (P6).
func Disassemble(image api.Image) (string, api.Errno) { return back.Source(image) }

// layOut is what Assemble and Names have in common, so that both tell the same errors.
func layOut(source string) (layout.Plan, int, api.Errno) {
	program, line, errno := read.Source(source)
	if errno != api.OK {
		return layout.Plan{}, line, errno
	}
	return layout.Make(program)
}
