package disk

import (
	"strings"

	"halyard/api"
)

// isPath tells whether a text is a path.
func isPath(s string) bool {
	if s == root {
		return true
	}
	if len(s) > api.MaxDiskPath || !strings.HasPrefix(s, root) {
		return false
	}
	for _, part := range strings.Split(s[1:], "/") {
		if !isPart(part) {
			return false
		}
	}
	return true
}

// isPart tells whether a text may be a part of a path.
func isPart(s string) bool {
	if len(s) == 0 || len(s) > maxPart || s == "." || s == ".." {
		return false
	}
	for i := range len(s) {
		if !isPartByte(s[i]) {
			return false
		}
	}
	return true
}

// isPartByte tells whether a byte may stand in a part of a path.
func isPartByte(b byte) bool {
	return 'a' <= b && b <= 'z' || '0' <= b && b <= '9' || b == '.' || b == '-'
}

// split is the parent of a path other than the root, and its last part.
func split(path string) (string, string) {
	i := strings.LastIndexByte(path, '/')
	if i == 0 {
		return root, path[1:]
	}
	return path[:i], path[i+1:]
}

// mayLoad tells whether a file or directory is one that a disk may have.
func mayLoad(f api.File) bool {
	return f.Path != root && isPath(f.Path) && !(f.Dir && f.Data != "")
}
