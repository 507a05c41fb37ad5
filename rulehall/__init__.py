"""Rulehall: facts that follow from rules, each with a reason that can be checked."""
