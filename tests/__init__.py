"""Tests of the package bothreed."""
