// Package whole has no code: its tests tell what all the layers promise together.
package whole
