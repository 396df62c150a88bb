"""Wherefrom: what passers on a road bear, whatever spots they set out from."""
