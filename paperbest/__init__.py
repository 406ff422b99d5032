"""Paperbest: a constraint solver whose answers come with a paper."""
