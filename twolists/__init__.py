"""Checklists of two schools joined."""
