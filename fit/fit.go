// Package fit tells what the limits of package api allow. It is not a layer: several layers ask it.
package fit

import "kist/api"

// In reports whether n is from low to high.
func In(n, low, high int) bool {
	return low <= n && n <= high
}

// Key reports whether a blob may have this key.
func Key(key string) bool {
	return In(len(key), 1, api.MaxKey)
}

// Groups returns the number of groups of a blob of size bytes, or 0 if no blob has that size.
func Groups(size int) int {
	const groupLen = api.K * api.ShardLen
	if !In(size, 0, api.MaxBlob) {
		return 0
	}
	return max(1, (size+groupLen-1)/groupLen)
}
