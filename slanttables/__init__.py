"""Slanttables: tables alike along slants."""
