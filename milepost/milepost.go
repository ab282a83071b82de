// Package milepost: how far everything is, by what neighbours tell: see DOC.md.
package milepost

import (
	"milepost/api"
	"milepost/packet"
)

// Decode reads a packet (P3).
func Decode(data string) (api.Packet, error) { return packet.Decode(data) }

// Encode writes a packet (P4).
func Encode(p api.Packet) (string, error) { return packet.Encode(p) }
