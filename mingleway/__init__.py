"""Mingleway: rows that are mixed on their way, so that every hearer solves for all."""
