// Package rules has tests alone: of what holds in all layers (shared/DOC.md, shared/LANGUAGE.md), and of the calls that the chapters list.
package rules
