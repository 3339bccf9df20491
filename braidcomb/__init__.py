"""Braidcomb: strings that cross, brought to one form."""
