"""Tests of the package; run them with: python3 -m unittest discover -s tests -t ."""
