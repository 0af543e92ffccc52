"""Backhead: heads that go to and fro on a word, and readers that go through it once."""
