"""Oncewise: trees of rules and webs of links in which each thing is used once."""
