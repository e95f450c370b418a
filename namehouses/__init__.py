"""Namehouses: names given out by several houses."""
