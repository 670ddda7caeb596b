"""Shapeholes: complexes of simplices, decided with certificates."""
