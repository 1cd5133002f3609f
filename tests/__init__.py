"""Tests of withincall."""
