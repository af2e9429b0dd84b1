package back

import (
	"testing"

	"strider/api"
)

func TestSource(t *testing.T) {
	for _, c := range []struct {
		image api.Image
		want  string
	}{
		{api.Image{}, "org 0\n"},
		{api.Image{Org: 0xfffffe, Bytes: "\x09"}, "org 16777214\ndc.b 9\n"},
		{api.Image{Org: 16, Bytes: "\x60\x00\x00\x02\xff\xff\x01"}, "org 16\nbra.w 20\ndc.w 65535\ndc.b 1\n"},
		{api.Image{Org: 2, Bytes: "\x4e\x71\x34\x01\x70\xff\x67\xfe\x4e\xf9\x00\x00\x00\x04"}, "org 2\nnop\nmove d1,d2\nmoveq #-1,d0\nbeq.s 8\njmp.l 4\n"},
	} {
		if source, errno := Source(c.image); source != c.want || errno != api.OK {
			t.Errorf("%v: %q, error %d; want %q", c.image, source, errno, c.want)
		}
	}
}

func TestNoImage(t *testing.T) {
	for _, image := range []api.Image{{Org: 1}, {Org: -2}, {Org: api.MaxPlace + 2}, {Org: api.MaxPlace, Bytes: "xx"}, {Bytes: string(make([]byte, api.MaxImage+1))}} {
		if source, errno := Source(image); source != "" || errno != api.ErrArg {
			t.Errorf("Org %d, %d bytes: %q, error %d", image.Org, len(image.Bytes), source, errno)
		}
	}
}
