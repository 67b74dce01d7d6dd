"""Webs led into webs, tie to tie, and papers for small checkers that seek nothing."""
