"""Seenchoices: what choices between words say about unknown costs of edits."""
