"""Withincall: networks of stages that advance and roll back."""
