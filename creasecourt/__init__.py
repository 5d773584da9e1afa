"""Creasecourt: creased sheets, judged corner by corner and pile by pile."""
