"""Fusenets: when everything in a net of fuses burns."""
