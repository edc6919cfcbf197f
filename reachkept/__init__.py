"""Reachkept: programs that keep what they reach, however they are run."""
