"""Buildroom: builds that make old texts new, held against clean ones."""
